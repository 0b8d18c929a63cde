"""[62] to [68]: live yards."""

import random
import unittest

from forkyields.errors import Broken, InvalidEvent, NothingToUndo, YardError
from forkyields.numberclasses import Numbers
from forkyields.runclasses import Driver
from forkyields.runs import is_run, takes_in
from forkyields.states import state_of
from forkyields.systemchanges import excluded
from forkyields.trees import lying_with, next_steps, tree_after
from forkyields.yards import Yard
from tests.samples import (
    BUSY, KEEPER, LIB, RUN, SYSTEM, SYSTEMS, WORK, Odd, lively_systems, not_usable, odd_values, refusal, same, spoiled)
from tests.test_exclusions import EITHER, TWO
from tests.test_heaps import GROWS
from tests.yardmodel import MOST, Day, event_fits, likely_events, random_day

DAYS = [SYSTEM, BUSY, KEEPER, TWO, EITHER, GROWS, (WORK, LIB), (LIB,)]
FORKS = [('step', (0, 'fork', -1)), ('step', (0, 'fork', -1)), ('step', (1, 'exit', -1))]


def invalid(event, reason):
    return ('InvalidEvent', {'event': event, 'reason': reason})


def yard_behind(system, events, guard='off'):
    yard = Yard(system, guard=guard)
    for event in events:
        yard.happen(event)
    return yard


def assign_guard(yard, guard):
    yard.guard_now = guard


def picture_of(yard):
    """All that a yard tells but for counts."""
    return repr((yard.log(), yard.run_now, yard.tree_now, yard.excluded_now, yard.system_now, yard.guard_now, yard.next_now,
                 yard.waiting_now, yard.foreign_now, yard.tally(), yard.table(), len(yard)))


class Derived(Yard):
    pass


class Other:
    """An object with the attributes of a Yard."""
    _system = SYSTEM
    _past = ((), ((),))

    def log(self):
        return (('yard', SYSTEM, 'off'),)


class YardTest(unittest.TestCase):
    def agree(self, yard, day):
        """The yard tells what a day with the same events tells."""
        model = day.model
        self.assertTrue(same(yard.run_now, day.run))
        self.assertTrue(same(yard.tree_now, model.rows()))
        self.assertTrue(same(yard.excluded_now, tuple(sorted(day.excluded))))
        self.assertTrue(same(yard.system_now, day.system_left()))
        self.assertTrue(same(yard.guard_now, day.guard))
        self.assertTrue(same(yard.next_now, day.next()))
        self.assertTrue(same(yard.waiting_now, day.waiting()))
        self.assertTrue(same(yard.foreign_now, tuple(day.foreign)))
        self.assertTrue(same(yard.tally(), day.tally()))
        self.assertTrue(same(yard.table(), day.table()))
        self.assertTrue(same(yard.log(), day.log()))
        self.assertTrue(same(len(yard), len(model.there())))
        for name in day.marks:
            self.assertTrue(same(yard.taken_since(name=name), day.taken(name)))
            self.assertTrue(same(yard.forked_since(name=name), day.forked(name)))
        there = {process.number: process for process in model.there()}
        rows = {row[0]: row for row in model.rows()}
        for number in range(len(model.all) + 2):
            self.assertIs(number in yard, number in there)
            if number in there:
                self.assertTrue(same(yard[number], rows[number]))
            else:
                self.assertEqual(refusal(lambda at=number: yard[at]), not_usable('process'))
            if number in there and there[number].code == -1:
                self.assertTrue(same(yard.lying(process=number), day.lying(number)))
                self.assertTrue(same(yard.state_now(process=number), day.state(number)))
            else:
                self.assertEqual(refusal(yard.lying, number), not_usable('process'))
                self.assertEqual(refusal(yard.state_now, number), not_usable('process'))

    def test_examples(self):
        yard = Yard(SYSTEM, guard='on')
        self.assertEqual([yard.do_step(0, 'fork', -1), yard.do_step(0, 'fork', -1), yard.do_step(1, 'exit', -1), yard.next_now],
                         [2, 3, 3, ((2, 'fork', -1),)])
        self.assertEqual([yard.barred(('step', (0, 'take', 1))), yard.exclude('main', 2, 'h'), yard.barred(('step', (0, 'take', 1)))],
                         ['foreign', 3, 'number'])
        self.assertEqual([yard.waiting_now, yard.lying(0), yard.state_now(0), yard.table()[0]],
                         [(0,), (1,), (2, ((0, 0),)), '  0 main      2  1 waits'])
        self.assertEqual([yard.undo(), yard.waiting_now, yard.tally()], [('exclude', 'main', 2, 'h'), (), (('exit', 1), ('fork', 2))])

    def test_made(self):
        for system in DAYS:
            for guard in ('on', 'off'):
                yard = Yard(system=system, guard=guard)
                self.agree(yard, Day(system, guard))
                self.assertEqual(yard.counts(), (0, 0))
            self.assertEqual(Yard(system), Yard(system, guard='off'))
        self.assertEqual(Yard.MOST, 40)
        self.assertEqual(Yard(SYSTEM).MOST, 40)
        for wrong in odd_values() + [(), SYSTEM[:2]]:
            self.assertEqual(refusal(Yard, wrong, guard=None), not_usable('system'))
            self.assertEqual(refusal(Yard, SYSTEM, guard=wrong), not_usable('guard'))
        for wrong in ('On', 'no', 0, 1, ('on',), 'off '):
            self.assertEqual(refusal(Yard, SYSTEM, guard=wrong), not_usable('guard'))
        with self.assertRaises(TypeError):
            Yard(SYSTEM, 'on')

    def test_many_days(self):
        """Behind each event, possible or not, all is as an independent player has it."""
        rng = random.Random(620)
        reasons = {}
        for system in DAYS * 2 + lively_systems(621, 25):
            guard = rng.choice(('on', 'off', 'off'))
            yard, day = Yard(system, guard=guard), Day(system, guard)
            for _ in range(75):
                event = rng.choice(likely_events(rng, day))
                reason = day.reason(event)
                reasons[reason] = reasons.get(reason, 0) + 1
                self.assertEqual(repr(yard.barred(event=event)), repr(reason))
                if reason is None:
                    day.do(event)
                    self.assertEqual(yard.happen(event=event), len(day.model.there()))
                else:
                    self.assertEqual(refusal(yard.happen, event), invalid(event, reason))
                if rng.random() < 0.5:
                    self.agree(yard, day)
            self.agree(yard, day)
        self.assertTrue(min(reasons.get(reason, 0) for reason in (
            None, 'full', 'process', 'word', 'number', 'foreign', 'row', 'same', 'twice')) > 5, reasons)

    def test_each_method(self):
        """The methods of their own, += and the assignment do the same as happen, and raise the same."""
        rng = random.Random(622)
        for system in DAYS:
            made = [Yard(system) for _ in range(3)]
            day = Day(system)
            for _ in range(45):
                event = rng.choice(likely_events(rng, day))
                word, *parts = event
                plain, own, added = made
                named = {'step': lambda: own.do_step(*parts[0]), 'exclude': lambda: own.exclude(*parts), 'allow': lambda: own.allow(*parts),
                         'guard': lambda: own.set_guard(*parts), 'mark': lambda: own.mark(*parts)}[word]
                reason = day.reason(event)
                if reason is not None:
                    for call in (lambda: plain.happen(event), named, lambda: added.__iadd__(event)):
                        self.assertEqual(refusal(call), invalid(event, reason))
                    if word == 'guard':
                        self.assertEqual(refusal(assign_guard, own, parts[0]), invalid(event, reason))
                else:
                    day.do(event)
                    many = len(day.model.there())
                    self.assertEqual([plain.happen(event), named()], [many, many])
                    before = added
                    if word == 'guard':
                        added.guard_now = parts[0]
                    else:
                        added += event
                    self.assertIs(added, before)
                for yard in made:
                    self.assertEqual(yard.log(), day.log())
            for yard in made:
                self.agree(yard, day)

    def test_named_parameters(self):
        yard = Yard(SYSTEM)
        self.assertEqual([yard.do_step(process=0, word='fork', number=-1), yard.exclude(kind='main', place=2, slot='h'),
                          yard.allow(kind='main', place=2, slot='h'), yard.set_guard(guard='on'), yard.mark(name='a')], [2] * 5)
        self.assertEqual(yard.log()[1:], (('step', (0, 'fork', -1)), ('exclude', 'main', 2, 'h'), ('allow', 'main', 2, 'h'),
                                          ('guard', 'on'), ('mark', 'a')))

    def test_wrong_parts(self):
        """What is no event by form is told as the event that it would have been."""
        yard = Yard(SYSTEM)
        for wrong in odd_values() + ['nosuch', (0, 1)]:
            for call, event in ((lambda: yard.do_step(wrong, 'fork', -1), ('step', (wrong, 'fork', -1))),
                                (lambda: yard.do_step(0, wrong, -1), ('step', (0, wrong, -1))),
                                (lambda: yard.do_step(0, 'take', wrong), ('step', (0, 'take', wrong))),
                                (lambda: yard.exclude(wrong, 2, 'h'), ('exclude', wrong, 2, 'h')),
                                (lambda: yard.exclude('main', wrong, 'h'), ('exclude', 'main', wrong, 'h')),
                                (lambda: yard.allow('main', 2, wrong), ('allow', 'main', 2, wrong)),
                                (lambda: yard.set_guard(wrong), ('guard', wrong)), (lambda: assign_guard(yard, wrong), ('guard', wrong)),
                                (lambda: yard.mark(wrong), ('mark', wrong))):
                if not event_fits(event):
                    told = refusal(call)
                    self.assertEqual((told[0], repr(told[1]['event']), told[1]['reason']), ('InvalidEvent', repr(event), 'shape'))
            if not event_fits(wrong):
                told = refusal(yard.happen, wrong)
                self.assertEqual((told[0], told[1]['reason']), ('InvalidEvent', 'shape'))
                self.assertIs(told[1]['event'], wrong)
                self.assertEqual(yard.barred(wrong), 'shape')
        self.assertEqual(yard.log(), (('yard', SYSTEM, 'off'),))
        # A mark and its fellows take any of these words; what they are not is read by form alone.
        for event in FORKS[:1] + [('exclude', 'main', 2, 'h'), ('guard', 'on'), ('mark', 'a')]:
            for wrong in spoiled(event):
                if not event_fits(wrong):
                    self.assertEqual(yard.barred(wrong), 'shape')

    def test_reasons_in_their_order(self):
        yard = yard_behind(SYSTEM, FORKS)
        for event, reason in ((('step', (9, 'go', 1)), 'process'), (('step', (1, 'go', 1)), 'process'), (('step', (0, 'fork', -1)), 'word'),
                              (('step', (0, 'later', -1)), 'word'), (('step', (0, 'take', 2)), 'number'), (('step', (0, 'take', 99)), 'number'),
                              (('step', (0, 'none', -1)), 'number'), (('step', (0, 'take', 1)), None), (('exclude', 'main', 4, 'h'), 'row'),
                              (('exclude', 'main', 2, 'g'), 'row'), (('exclude', 'nosuch', 2, 'h'), 'row'), (('allow', 'main', 9, 'h'), 'row'),
                              (('allow', 'main', 3, 'h'), 'row'), (('allow', 'main', 2, 'h'), 'same'), (('exclude', 'main', 2, 'h'), None),
                              (('guard', 'off'), 'same'), (('guard', 'on'), None), (('mark', 'a'), None)):
            self.assertEqual(repr(yard.barred(event)), repr(reason))
        yard.set_guard('on')
        self.assertEqual(yard.barred(('step', (0, 'take', 1))), 'foreign')
        yard.exclude('main', 2, 'h')
        self.assertEqual(yard.barred(('step', (0, 'take', 1))), 'number')
        self.assertEqual(yard.barred(('exclude', 'main', 2, 'h')), 'same')
        self.assertEqual(yard.barred(('guard', 'on')), 'same')
        yard.mark('a')
        self.assertEqual(yard.barred(('mark', 'a')), 'twice')
        self.assertIsNone(yard.barred(('mark', 'b')))
        # The exclusion helps against the child in the slot alone, and at this place alone.
        yard.do_step(2, 'fork', -1)
        yard.do_step(3, 'exit', -1)
        yard.do_step(2, 'exit', -1)
        self.assertEqual([yard.barred(('step', (0, 'take', child))) for child in (1, 2, 3)], ['number', None, 'foreign'])
        yard.do_step(0, 'take', 2)
        self.assertEqual([yard.barred(('step', (0, 'take', child))) for child in (1, 2, 3)], [None, 'number', 'number'])

    def test_full(self):
        yard = Yard(KEEPER)
        for k in range(20):
            self.assertEqual(yard.happen(('guard', 'on')), 1)
            self.assertEqual(yard.happen(('guard', 'off')), 1)
        self.assertEqual(len(yard.log()), 41)
        for event in (('guard', 'on'), ('guard', 'off'), ('mark', 'a'), ('step', (0, 'fork', -1)), ('step', (9, 'fork', -1)),
                      ('exclude', 'nosuch', 0, 'a')):
            self.assertEqual(yard.barred(event), 'full')
            self.assertEqual(refusal(yard.happen, event), invalid(event, 'full'))
            self.assertEqual(refusal(yard.tried, event), invalid(event, 'full'))
        for wrong in (None, ('mark', 'A'), ('guard',), [], ('step', (0, 'fork'))):
            self.assertEqual(refusal(yard.happen, wrong), invalid(wrong, 'shape'))
        self.assertEqual(yard.next_now, ((0, 'fork', -1),))
        self.assertEqual(yard.tried(), yard.tree_now)
        yard.undo()
        self.assertIsNone(yard.barred(('mark', 'a')))
        self.assertEqual(refusal(yard.tried, ('mark', 'a'), ('mark', 'b')), invalid(('mark', 'b'), 'full'))
        self.assertEqual(yard.mark('a'), 1)
        self.assertEqual(yard.barred(('mark', 'b')), 'full')

    def test_marks_that_are_undone(self):
        yard = yard_behind(SYSTEM, [('mark', 'a'), *FORKS])
        self.assertEqual([yard.forked_since('a'), yard.taken_since('a')], [(1, 2), ()])
        yard.mark('b')
        yard.do_step(0, 'take', 1)
        self.assertEqual([yard.forked_since('b'), yard.taken_since('b'), yard.taken_since('a')], [(), (1,), (1,)])
        yard.undo()
        yard.undo()
        for call in (yard.taken_since, yard.forked_since):
            for wrong in odd_values() + ['b', 'c', 0, ('a',)]:
                self.assertEqual(refusal(call, wrong), not_usable('name'))
        self.assertEqual(yard.mark('b'), 3)
        self.assertEqual(yard.forked_since('b'), ())

    def test_other_values_for_processes(self):
        yard = yard_behind(SYSTEM, FORKS)
        for wrong in odd_values() + [1, 3, 10 ** 59, '0', (0,), 0 == 0]:
            for call in (yard.lying, yard.state_now):
                self.assertEqual(refusal(call, wrong), not_usable('process'))
        for wrong in odd_values() + [3, 10 ** 59, '0', (0,), slice(0, 1)]:
            self.assertEqual(refusal(lambda: yard[wrong]), not_usable('process'))
            self.assertIs(wrong in yard, False)
        self.assertEqual([k in yard for k in (0, 1, 2, False, True)], [True, True, True, False, False])
        with self.assertRaises(TypeError):
            list(yard)
        self.assertIs(bool(yard), True)

    def test_equal(self):
        made = [Yard(SYSTEM), Yard(SYSTEM, guard='on'), Yard(BUSY), yard_behind(SYSTEM, FORKS), yard_behind(SYSTEM, FORKS[:2]),
                yard_behind(SYSTEM, FORKS, 'on'), yard_behind(SYSTEM, [('guard', 'on')]), yard_behind(SYSTEM, [('mark', 'a')])]
        for one in made:
            for two in made:
                self.assertIs(one == two, one.log() == two.log())
                self.assertIs(one != two, one.log() != two.log())
        undone = yard_behind(SYSTEM, FORKS)
        undone.undo()
        self.assertIs(undone == made[4], True)
        self.assertIs(Derived(SYSTEM) == Yard(SYSTEM), True)
        self.assertIs(Yard(SYSTEM) == Derived(SYSTEM), True)
        yard = Yard(SYSTEM)
        for other in odd_values() + [yard.log(), SYSTEM, Other(), Driver(SYSTEM), Numbers(), 0]:
            self.assertIs(yard == other, False)
            if not isinstance(other, Odd):
                self.assertIs(other == yard, False)
                self.assertIs(yard != other, True)

    def test_no_other_assignments(self):
        yard = Yard(SYSTEM)
        for name in ('run_now', 'tree_now', 'excluded_now', 'system_now', 'next_now', 'waiting_now', 'foreign_now'):
            with self.assertRaises(AttributeError):
                setattr(yard, name, ())

    def test_words_of_others(self):
        """What a yard tells is what the functions tell of its run."""
        rng = random.Random(623)
        for system in DAYS + lively_systems(624, 15):
            day = random_day(rng, system, 30)
            yard = yard_behind(system, day.events)
            self.assertEqual(yard.tree_now, tree_after(system, yard.run_now))
            self.assertEqual(yard.foreign_now, tuple(row for row in takes_in(system, yard.run_now) if not row[5]))
            self.assertTrue(set(yard.next_now) <= set(next_steps(system, yard.run_now)))
            for row in yard.tree_now:
                if row[4] == -1:
                    self.assertEqual(yard.lying(row[0]), lying_with(system, yard.run_now, row[0]))
                    self.assertEqual(yard.state_now(row[0]), state_of(system, yard.run_now, row[0]))


class TrialTest(unittest.TestCase):
    def test_barred_and_tried_change_nothing(self):
        rng = random.Random(630)
        for system in DAYS:
            day = random_day(rng, system, 20)
            yard = yard_behind(system, day.events)
            before, counts = picture_of(yard), yard.counts()
            further = []
            later = Day(system, 'off', day.events)
            for _ in range(12):
                event = rng.choice(likely_events(rng, later))
                if later.reason(event) is None:
                    later.do(event)
                    further.append(event)
                else:
                    self.assertEqual(refusal(yard.tried, *further, event, None), invalid(event, later.reason(event)))
                yard.barred(event)
                self.assertTrue(same(yard.tried(*further), later.model.rows()))
                self.assertEqual((picture_of(yard), yard.counts()), (before, counts))
            for wrong in odd_values():
                self.assertEqual(refusal(yard.tried, wrong)[1]['reason'], 'shape')
                self.assertEqual((picture_of(yard), yard.counts()), (before, counts))

    def test_undo(self):
        rng = random.Random(631)
        for system in DAYS:
            day = random_day(rng, system, 25)
            yard = Yard(system)
            pictures = []
            for event in day.events:
                pictures.append(picture_of(yard))
                yard.happen(event)
            for event in day.events[::-1]:
                self.assertTrue(same(yard.undo(), event))
                self.assertEqual(picture_of(yard), pictures.pop())
            for _ in range(2):
                self.assertEqual(refusal(yard.undo), ('NothingToUndo', {'steps': 0}))
            self.assertEqual(yard, Yard(system))
            many = 2 * len(day.events) + 2
            self.assertEqual(yard.counts(), (many, many))

    def test_trials(self):
        yard = yard_behind(SYSTEM, FORKS)
        before = picture_of(yard)
        with yard.trial() as inner:
            self.assertIs(inner, yard)
            yard.do_step(0, 'take', 1)
            yard += ('mark', 'a')
            yard.guard_now = 'on'
            self.assertNotEqual(picture_of(yard), before)
        self.assertEqual(picture_of(yard), before)
        self.assertEqual(yard.counts(), (6, 6))
        with yard.trial():
            for _ in range(3):
                yard.undo()
            self.assertEqual(yard, Yard(SYSTEM))
            self.assertEqual(refusal(yard.undo), ('NothingToUndo', {'steps': 0}))
            yard.exclude('main', 2, 'h')
        self.assertEqual(picture_of(yard), before)
        self.assertEqual(yard.counts(), (11, 11))

    def test_errors_within(self):
        for error in (InvalidEvent(None, 'shape'), KeyError('x'), ValueError('y')):
            yard = yard_behind(SYSTEM, FORKS)
            before = picture_of(yard)
            with self.assertRaises(type(error)):
                with yard.trial():
                    yard.mark('a')
                    yard.undo()
                    yard.undo()
                    raise error
            self.assertEqual(picture_of(yard), before)
        with self.assertRaises(InvalidEvent):
            with yard.trial():
                yard.mark('b')
                yard.mark('b')
        self.assertEqual(picture_of(yard), before)

    def test_trials_within_trials(self):
        yard = yard_behind(SYSTEM, FORKS[:1])
        pictures = [picture_of(yard)]
        with yard.trial():
            yard.do_all(*FORKS[1:])
            pictures.append(picture_of(yard))
            with yard.trial():
                for _ in range(3):
                    yard.undo()
                yard.set_guard('on')
                with self.assertRaises(ZeroDivisionError):
                    with yard.trial():
                        yard.mark('a')
                        raise ZeroDivisionError
                self.assertEqual((yard.guard_now, yard.log()[1:]), ('on', (('guard', 'on'),)))
            self.assertEqual(picture_of(yard), pictures[1])
        self.assertEqual(picture_of(yard), pictures[0])

    def test_a_trial_begins_with_its_call(self):
        yard = Yard(SYSTEM)
        trial = yard.trial()
        yard.mark('a')
        with trial as inner:
            self.assertIs(inner, yard)
            yard.mark('b')
            self.assertEqual(len(yard.log()), 3)
        self.assertEqual(yard.log(), (('yard', SYSTEM, 'off'),))

    def test_do_all(self):
        rng = random.Random(632)
        for system in DAYS:
            day = random_day(rng, system, 12)
            for wrong in (None, ('step', (99, 'exit', -1)), ('guard', 'On'), ('exclude', 'nosuch', 0, 'a')):
                for k in range(len(day.events) + 1):
                    events = (*day.events[:k], wrong, *day.events[k:])
                    reason = Day(system, 'off', day.events[:k]).reason(wrong)
                    for keep in (False, True):
                        yard = yard_behind(system, day.events[:0])
                        with self.assertRaises(Broken) as caught:
                            yard.do_all(*events, keep=keep)
                        self.assertEqual(vars(caught.exception), {'done': k})
                        self.assertEqual(vars(caught.exception.__cause__), {'event': wrong, 'reason': reason})
                        self.assertIsInstance(caught.exception.__cause__, InvalidEvent)
                        kept = day.events[:k] if keep else ()
                        self.assertEqual(picture_of(yard), picture_of(yard_behind(system, kept)))
                        self.assertEqual(yard.counts(), (1, 1))
            yard = Yard(system)
            self.assertTrue(same(yard.do_all(*day.events), len(day.events)))
            self.assertEqual(yard, yard_behind(system, day.events))
            self.assertEqual(yard.do_all(), 0)
            self.assertEqual(yard.counts(), (2, 2))

    def test_do_all_behind_others(self):
        yard = yard_behind(SYSTEM, FORKS[:2])
        before = picture_of(yard)
        self.assertEqual(refusal(yard.do_all, ('mark', 'a'), ('mark', 'a')), ('Broken', {'done': 1}))
        self.assertEqual(picture_of(yard), before)
        self.assertEqual(refusal(yard.do_all, ('mark', 'a'), ('mark', 'b'), ('mark', 'a'), keep=True), ('Broken', {'done': 2}))
        self.assertEqual(yard.log()[3:], (('mark', 'a'), ('mark', 'b')))
        # Only True keeps them.
        for keep in (1, 'True', None, (True,)):
            self.assertEqual(refusal(yard.do_all, ('mark', 'c'), ('mark', 'a'), keep=keep), ('Broken', {'done': 1}))
            self.assertEqual(yard.log()[3:], (('mark', 'a'), ('mark', 'b')))
        self.assertEqual(refusal(yard.do_all, *[('mark', letter * 2) for letter in 'abcdefghijklmnopqrstuvwxyz'],
                                 *[('mark', letter * 3) for letter in 'abcdefghijklm'], keep=True), ('Broken', {'done': 36}))
        self.assertEqual(len(yard.log()), 41)

    def test_counts(self):
        yard = Yard(SYSTEM)
        many = 0
        for call in (lambda: yard.happen(FORKS[0]), lambda: yard.happen(None), lambda: yard.do_step(1, 'exit', -1),
                     lambda: yard.do_step(1, 'exit', -1), lambda: yard.exclude('main', 2, 'h'), lambda: yard.exclude('main', 2, 'h'),
                     lambda: yard.allow('main', 2, 'h'), lambda: yard.allow('main', 2, 'h'), lambda: yard.set_guard('on'),
                     lambda: yard.set_guard('on'), lambda: yard.mark('a'), lambda: yard.mark('a'), yard.undo,
                     lambda: yard.do_all(('mark', 'b'), ('mark', 'c')), lambda: yard.do_all(('mark', 'd'), None), lambda: yard.do_all(),
                     lambda: yard.do_all(None, keep=True), lambda: assign_guard(yard, 'off'), lambda: assign_guard(yard, 'off'),
                     lambda: yard.__iadd__(('mark', 'e')), lambda: yard.__iadd__(('mark', 'e'))):
            refusal(call)
            many += 1
            self.assertEqual(yard.counts(), (many, many))
        for call in (lambda: yard.tried(('mark', 'f')), lambda: yard.tried(None), lambda: yard.barred(None), lambda: yard.lying(0),
                     lambda: yard.lying(99), lambda: yard.state_now(0), lambda: yard.taken_since('x'), lambda: yard.forked_since('b'),
                     yard.tally, yard.table, yard.log, lambda: yard[0], lambda: yard[99], lambda: 0 in yard, lambda: len(yard),
                     lambda: yard == yard, lambda: yard.next_now, lambda: yard.waiting_now, lambda: yard.foreign_now, yard.counts,
                     lambda: yard.run_now, lambda: yard.tree_now, lambda: yard.excluded_now, lambda: yard.system_now, yard.trial):
            refusal(call)
            self.assertEqual(yard.counts(), (many, many))

    def test_errors(self):
        for made, fields in ((InvalidEvent([1], Odd()), ('event', 'reason')), (NothingToUndo(0), ('steps',)), (Broken(3), ('done',))):
            self.assertEqual(tuple(vars(made)), fields)
            self.assertEqual(type(made).__bases__, (YardError,))

    def test_a_call_that_raises_changes_nothing(self):
        yard = yard_behind(SYSTEM, FORKS)
        before = picture_of(yard)
        for call in (lambda: yard.happen(('mark', 'A')), lambda: yard.do_step(0, 'go', 1), lambda: yard.exclude('main', 3, 'h'),
                     lambda: yard.allow('main', 2, 'h'), lambda: yard.set_guard('off'), lambda: yard.do_all(('mark', 'a'), None),
                     lambda: yard.tried(None), lambda: yard.lying(1), lambda: yard[9], lambda: yard.taken_since('a')):
            self.assertIsNotNone(refusal(call))
            self.assertEqual(picture_of(yard), before)

    def test_arguments_are_left_alone(self):
        yard = Yard(SYSTEM)
        events = [('mark', 'a'), ('guard', 'on')]
        yard.do_all(*events)
        self.assertEqual(events, [('mark', 'a'), ('guard', 'on')])
        table = yard.table()
        table.clear()
        self.assertEqual(len(yard.table()), 1)


class ConsequencesTest(unittest.TestCase):
    def test_a_guard_from_the_beginning(self):
        """[68] If the guard was on all the time, no take is foreign."""
        rng = random.Random(640)
        met = 0
        for system in DAYS * 4 + lively_systems(641, 40):
            yard = Yard(system, guard='on')
            day = Day(system, 'on')
            for _ in range(60):
                event = rng.choice(likely_events(rng, day))
                if event[0] == 'step' and day.reason(event) is None:
                    day.do(event)
                    yard.happen(event)
                    met += event[1][1] == 'take'
            self.assertEqual(yard.foreign_now, ())
        self.assertGreater(met, 15)

    def test_exclusions_ahead_of_all_steps(self):
        """[68] Then the run is one of the system that is left, also when some are allowed again."""
        rng = random.Random(642)
        met = 0
        for system in DAYS * 3 + lively_systems(643, 40):
            yard = Yard(system)
            rows = sorted(Day(system).exclusions())
            for row in rows[:6]:
                if rng.random() < 0.7:
                    yard.exclude(*row)
            for _ in range(30):
                if yard.next_now and yard.barred(('mark', 'zz')) != 'full':
                    step = rng.choice(yard.next_now)
                    yard.do_step(*step)
                    met += step[1] == 'take' and bool(yard.excluded_now)
            self.assertIs(is_run(yard.system_now, yard.run_now), True)
            self.assertEqual(yard.system_now, excluded(system, *yard.excluded_now))
            for row in yard.excluded_now[::2]:
                if yard.barred(('allow', *row)) is None:
                    yard.allow(*row)
                    self.assertIs(is_run(yard.system_now, yard.run_now), True)
        self.assertGreater(met, 5)

    def test_the_run_is_one_of_the_whole_system(self):
        yard = yard_behind(SYSTEM, [*FORKS, ('step', (0, 'take', 1)), ('exclude', 'main', 2, 'h')])
        self.assertIs(is_run(SYSTEM, yard.run_now), True)
        self.assertIs(is_run(yard.system_now, yard.run_now), False)
        self.assertEqual(Day(SYSTEM).exclusions(), {('main', 2, 'h')})
        self.assertEqual((MOST, len(RUN), len(SYSTEMS)), (40, 6, 5))


if __name__ == '__main__':
    unittest.main()

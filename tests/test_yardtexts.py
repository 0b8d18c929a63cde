"""[69] to [72]: logs of yards, events and logs as texts, and back."""

import random
import unittest

from forkyields.errors import InvalidEvent, InvalidText
from forkyields.kinds import is_system
from forkyields.systemreadings import read_system
from forkyields.systemtexts import system_text
from forkyields.yardevents import is_event
from forkyields.yardlogs import is_log, replayed
from forkyields.yardreadings import read_event, read_log
from forkyields.yards import Yard
from forkyields.yardtexts import event_line, log_lines
from tests.grammar import faults
from tests.samples import (
    BUSY, KEEPER, LIB, SYSTEM, WORK, Odd, lively_systems, not_usable, odd_values, random_systems, refusal, same, spoiled)
from tests.test_yardevents import EVENTS
from tests.test_yards import DAYS, FORKS, invalid, picture_of
from tests.wordgrammar import mangled
from tests.yardgrammar import wrong_event, wrong_head, wrong_tail
from tests.yardmodel import Day, event_fits, likely_events, random_day

LOG = (('yard', (WORK, LIB), 'off'), ('step', (0, 'fork', -1)), ('mark', 'a'), ('guard', 'on'), ('exclude', 'work', 0, 'h'))


def text_error(line, field):
    return ('InvalidText', {'line': line, 'field': field})


def log_fits(thing):
    """Whether any value is a log by kind."""
    if type(thing) is not tuple or not thing or type(thing[0]) is not tuple or len(thing[0]) != 3:
        return False
    word, system, guard = thing[0]
    if type(word) is not str or word != 'yard' or faults(system) or type(guard) is not str or guard not in ('on', 'off'):
        return False
    return all(event_fits(event) for event in thing[1:])


def random_log(rng, system, most=12):
    """A log of events, possible or not."""
    day = Day(system)
    events = [rng.choice(likely_events(rng, day)) for _ in range(rng.randrange(most))]
    return (('yard', system, rng.choice(('on', 'off'))), *events)


class LogTest(unittest.TestCase):
    def test_is_log(self):
        rng = random.Random(690)
        for system in DAYS + random_systems(691, 10):
            self.assertIs(is_log(thing=random_log(rng, system)), True)
        for wrong in odd_values() + [(), ('yard', SYSTEM, 'on'), (('yard', SYSTEM, 'on'), None), [('yard', SYSTEM, 'on')],
                                     (['yard', SYSTEM, 'on'],), (('yard', SYSTEM),), (('yard', SYSTEM, 'On'),), (('Yard', SYSTEM, 'on'),),
                                     (('yard', (), 'on'),), (('yard', SYSTEM[:2], 'on'),), (('yard', SYSTEM, 'on', 0),),
                                     (('yard', SYSTEM, True),), FORKS, tuple(FORKS), (('yard', Odd(), 'on'),), Yard(SYSTEM)]:
            self.assertIs(is_log(wrong), False)

    def test_changed_at_one_place(self):
        met = {True: 0, False: 0}
        for log in (LOG, LOG[:1], (('yard', (LIB,), 'on'), *EVENTS[:1], *EVENTS[8:9])):
            for wrong in spoiled(log):
                self.assertIs(is_log(wrong), log_fits(wrong), wrong)
                met[is_log(wrong)] += 1
        self.assertTrue(min(met.values()) > 30, met)

    def test_replayed(self):
        """[72] A yard that is replayed from its log is equal to it, and tells the same but for counts."""
        rng = random.Random(692)
        for system in DAYS * 2 + lively_systems(693, 20):
            guard = rng.choice(('on', 'off'))
            yard = Yard(system, guard=guard)
            for event in random_day(rng, system, 40, guard).events:
                if yard.barred(event) is None:
                    yard.happen(event)
                if rng.random() < 0.1 and len(yard.log()) > 1:
                    yard.undo()
            self.assertIs(is_log(yard.log()), True)
            again = replayed(log=yard.log())
            self.assertIs(type(again), Yard)
            self.assertIs(again == yard, True)
            self.assertEqual(picture_of(again), picture_of(yard))
            self.assertEqual(again.counts(), (0, 0))
            for event in yard.log()[:0:-1]:
                self.assertEqual(again.undo(), event)

    def test_first_error(self):
        """The error of the first event that is not possible: left out, put in, exchanged."""
        rng = random.Random(694)
        met = {}
        for system in DAYS * 4 + lively_systems(695, 30):
            day = random_day(rng, system, rng.choice((10, 40)))
            events = list(day.events)
            for _ in range(6):
                made = list(events)
                k, m = rng.randrange(len(made) + 1), rng.randrange(len(made) + 1)
                if made and rng.random() < 0.3:
                    del made[k % len(made)]
                elif made and rng.random() < 0.5:
                    k, m = k % len(made), m % len(made)
                    made[k], made[m] = made[m], made[k]
                else:
                    made.insert(k, rng.choice(likely_events(rng, Day(system)) + events))
                other, wrong = Day(system, day.begin), None
                for event in made:
                    reason = other.reason(event)
                    if reason is not None:
                        wrong = invalid(event, reason)
                        break
                    other.do(event)
                log = (('yard', system, day.begin), *made)
                self.assertEqual(refusal(replayed, log), wrong)
                met[wrong and wrong[1]['reason']] = met.get(wrong and wrong[1]['reason'], 0) + 1
        self.assertTrue(min(met.get(reason, 0) for reason in (None, 'full', 'process', 'word', 'number', 'same', 'twice')) > 1, met)

    def test_too_long(self):
        events = [('guard', 'on'), ('guard', 'off')] * 20
        self.assertEqual(len(replayed((('yard', SYSTEM, 'off'), *events)).log()), 41)
        self.assertEqual(refusal(replayed, (('yard', SYSTEM, 'off'), *events, ('mark', 'a'))), invalid(('mark', 'a'), 'full'))
        with self.assertRaises(InvalidEvent):
            replayed((('yard', SYSTEM, 'on'), ('guard', 'on')))


class EventTextTest(unittest.TestCase):
    def test_examples(self):
        self.assertEqual([event_line(('step', (0, 'take', 3))), read_event('allow main 2 h'),
                          log_lines((('yard', (LIB,), 'off'), ('mark', 'a')))],
                         ['step 0 take 3', ('allow', 'main', 2, 'h'), ['yard off 2', 'kind lib -', 'exit 0', 'mark a']])
        self.assertEqual(refusal(read_log, ['yard on 3', 'kind lib -', 'exit 0']), text_error(3, 0))

    def test_each_kind(self):
        lines = ['step 0 fork', f'step {10 ** 59} take {10 ** 59}', 'step 3 go 0', 'step 0 none', 'step 0 later', 'step 0 kill',
                 'step 0 release', 'step 0 exit', 'exclude main 2 h', f'allow abcdefgh {10 ** 59} a', 'guard on', 'guard off', 'mark a',
                 'mark on', 'mark step']
        for event, line in zip(EVENTS, lines):
            self.assertEqual(event_line(event=event), line)
            self.assertTrue(same(read_event(text=line), event))
        self.assertEqual(len(EVENTS), len(lines))

    def check_event(self, text):
        """Read it, or not, as the grammar says; the first word that cannot stand."""
        field = wrong_event(text)
        self.assertEqual(refusal(read_event, text), None if field is None else text_error(0, field), text)
        if field is None:
            event = read_event(text)
            self.assertIs(is_event(event), True)
            self.assertEqual(event_line(event), text)
        return field is None

    def test_changed_lines(self):
        rng = random.Random(700)
        met = {True: 0, False: 0}
        for event in EVENTS * 60:
            met[self.check_event(mangled(rng, event_line(event)))] += 1
        self.assertTrue(min(met.values()) > 50, met)

    def test_words_by_hand(self):
        for text, field in (('', 0), (' ', 0), ('step', 1), ('step ', 1), ('step 0', 2), ('step 0 ', 2), ('step 0 take', 3), ('step 0 take ', 3),
                            ('step 0 take 1 ', 4), ('step 0 fork -1', 3), ('step 0 fork ', 3), ('step 00 fork', 1), ('step -1 fork', 1),
                            ('step 0 Fork', 2), ('step  0 fork', 1), (' step 0 fork', 0), ('Step 0 fork', 0), ('exclude', 1),
                            ('exclude main', 2), ('exclude main 2', 3), ('exclude main 2 h x', 4), ('exclude main 02 h', 2), ('allow main 2 H', 3),
                            ('allow main 2 -', 3), ('guard', 1), ('guard On', 1), ('guard on off', 2), ('guard ', 1), ('mark', 1), ('mark a b', 2),
                            ('mark A', 1), ('mark abcdefghi', 1), ('mark a\n', 1), ('mark\na', 0), ('mark \n', 1), ('\n', 0), ('guard on\n', 1),
                            ('mark a\nmark b', 1), ('step 0 fork\n', 2), ('step 0\nfork', 1), (f'step {10 ** 60} fork', 1), ('yard on 3', 0),
                            (f'exclude main {"9" * 61} h', 2), ('undo', 0), ('guard on ', 2), ('step 0 go x y', 3), ('exclude 2 main h', 1)):
            self.assertEqual(refusal(read_event, text), text_error(0, field), text)
            self.assertFalse(self.check_event(text))
        for text in (f'step {"9" * 60} fork', f'exclude main {"9" * 60} h', 'mark take', 'step 0 take 0'):
            self.assertTrue(self.check_event(text))

    def test_no_event(self):
        for wrong in odd_values() + [('guard', 'On'), ('step', (0, 'fork'))]:
            self.assertEqual(refusal(event_line, wrong), not_usable('event'))
        for wrong in odd_values() + [(('yard', SYSTEM, 'On'),)]:
            self.assertEqual(refusal(log_lines, wrong), not_usable('log'))


class LogTextTest(unittest.TestCase):
    def test_there_and_back(self):
        """[72] What is read of a written log is equal to it."""
        rng = random.Random(710)
        for system in DAYS * 3 + random_systems(711, 20) + lively_systems(712, 20):
            log = random_log(rng, system)
            lines = log_lines(log=log)
            self.assertIs(type(lines), list)
            text = system_text(system).split('\n')
            self.assertEqual(lines[0], f'yard {log[0][2]} {len(text)}')
            self.assertEqual(lines[1:len(text) + 1], text)
            self.assertEqual(lines[len(text) + 1:], [event_line(event) for event in log[1:]])
            self.assertTrue(same(read_log(lines=lines), log))

    def check_log(self, lines):
        wrong = wrong_head(lines)
        before = list(lines)
        told = refusal(read_log, lines)
        self.assertEqual(lines, before)
        if wrong is not None:
            self.assertEqual(told, text_error(*wrong), lines)
            return 'word'
        many = int(lines[0].split(' ')[2])
        system = refusal(read_system, '\n'.join(lines[1:many + 1]))
        if system is not None:
            # What is no system is told ahead of the lines behind it.
            self.assertEqual(told, text_error(system[1]['line'] + 1, system[1]['field']), lines)
            return 'system'
        wrong = wrong_tail(lines)
        if wrong is not None:
            self.assertEqual(told, text_error(*wrong), lines)
            return 'event'
        self.assertIsNone(told)
        log = read_log(lines)
        self.assertTrue(is_log(log) and is_system(log[0][1]))
        self.assertEqual(log_lines(log), lines)
        return 'read'

    def test_changed_logs(self):
        rng = random.Random(713)
        met = {'word': 0, 'system': 0, 'event': 0, 'read': 0}
        for system in [SYSTEM, BUSY, KEEPER, (WORK, LIB), (LIB,)] * 70:
            lines = mangled(rng, '\n'.join(log_lines(random_log(rng, system)))).split('\n')
            met[self.check_log(lines)] += 1
        self.assertTrue(min(met.values()) > 8, met)

    def test_changed_counts_of_lines(self):
        rng = random.Random(714)
        for system in (SYSTEM, (WORK, LIB), (LIB,)):
            lines = log_lines(random_log(rng, system, 6))
            for many in [*range(len(lines) + 3), 99, 10 ** 59]:
                self.check_log([f'yard on {many}', *lines[1:]])
            for k in range(len(lines) + 1):
                for line in ('', ' ', 'mark a', 'exit 0', 'kind lib -', 'yard on 2', 'step 0 fork', 'mark a '):
                    self.check_log(lines[:k] + [line] + lines[k:])
                    self.check_log(lines[:k] + [line] + lines[k + 1:])
                self.check_log(lines[:k] + lines[k + 1:])
                self.check_log(lines[:k])

    def test_by_hand(self):
        right = log_lines(LOG)
        self.assertEqual(right, ['yard off 5', 'kind work -', 'fork lib x - 1', 'exit 0', 'kind lib -', 'exit 0', 'step 0 fork', 'mark a',
                                 'guard on', 'exclude work 0 h'])
        for lines, line, field in (([], 0, 0), ([''], 0, 0), (['yard'], 0, 1), (['yard on'], 0, 2), (['yard on '], 0, 2), (['yard on 0'], 1, 0),
                                   (['yard on 0', 'mark a'], 1, 0), (['yard on 00', 'x'], 0, 2), (['yard on 1 '], 0, 3), (['yard 1 on'], 0, 1),
                                   (['Yard on 1'], 0, 0), (['yard on 1'], 1, 0), (['yard on 2', 'kind lib -'], 2, 0), (['yard On 1'], 0, 1),
                                   (['yard on 1', 'kind lib -'], 2, 0), (['yard on 1', 'kind lib -', 'exit 0'], 2, 0),
                                   (['yard on 2', 'kind lib -', 'exit 2'], 2, 1), (['yard on 2', 'exit 0', 'kind lib -'], 1, 0),
                                   (['yard on 2', 'kind lib -', 'kind lib -'], 2, 0), (['yard on 2', 'kind lib -', 'go 3'], 2, 0),
                                   (['yard on 2', 'kind lib -', 'exit 0', ''], 3, 0), (['yard on 2', 'kind lib -', 'exit 0', 'mark A', 'x'], 3, 1),
                                   (['yard on 3', 'kind lib -', 'exit 0', 'mark a'], 3, 0), ([f'yard on {"9" * 60}', 'kind lib -'], 2, 0),
                                   ([f'yard on {"9" * 61}', 'kind lib -'], 0, 2), (right[:-1] + ['exclude work 0'], 9, 3),
                                   (right[:2] + ['fork lib x - 2'] + right[3:], 2, 0), (right[:4] + ['kind work -'] + right[5:], 4, 0),
                                   (right[:2] + ['fork nosuch x - 1'] + right[3:], 2, 0), (['yard  on 2'], 0, 1), ([' yard on 2'], 0, 0),
                                   (['yard on 2', 'kind lib -', 'exit 0', 'yard on 2', 'kind lib -', 'exit 0'], 3, 0)):
            self.assertEqual(refusal(read_log, lines), text_error(line, field), lines)
            self.assertIn(self.check_log(lines), ('word', 'system', 'event'))
        with self.assertRaises(InvalidText):
            read_log(['yard on 1', ''])


if __name__ == '__main__':
    unittest.main()

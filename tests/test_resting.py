"""[51], [53], [54], and what [8] says of rest."""

import random
import unittest

from forkyields.accounts import account_of, reach_of
from forkyields.numbersets import first_numbers, has_number
from forkyields.probes import settled_probe
from forkyields.resting import (
    alike_at_rest, rest_account, rest_probe, rest_table, sleeps, stuck_states, tags_at_rest)
from forkyields.stateparts import is_state_of
from forkyields.systemchanges import with_kind
from forkyields.systemparts import cut_at
from forkyields.tables import table_of
from tests.closed import members
from tests.model import model_behind, random_run
from tests.restbrute import RestFound
from tests.restplay import played_rest, tagged_at_rest
from tests.samples import (
    BUSY, LIB, MAIN, SYSTEM, SYSTEMS, WORK, lively_systems, not_usable, odd_values, random_systems, refusal, same,
    sleepy_systems)

NONE = ((), (), 0)
EVEN = ((0,), (), 0)
Z = ('z', ('a',), (('fork', 'lib', 'm', 'a', 1), ('wait', (), 2, 2, ()), ('exit', 0)))
NIGHT = (('main', (), (('fork', 'z', 't', '', 1), ('wait', (), 2, 2, ()), ('exit', 0))), Z, LIB)
# Forks ended and sleeping children, as many as it likes.
HERD = ('herd', ('b',), (('go', (1, 2, 3)), ('fork', 'lib', 'u', '', 0), ('fork', 'z', 'v', '', 0), ('go', (4, 5)),
                         ('fork', 'z', 'w', 'b', 5), ('wait', (('b', 6, 6, 6),), -1, 6, ()), ('exit', 1)))
DEEP = (('deep', ('c',), (('fork', 'herd', 's', 'c', 1), ('wait', (('c', 2, 2, 2),), -1, 2, ()), ('exit', 0))), HERD, Z, LIB)
SLEEPY = (NIGHT, DEEP)


def waits(name, rows, pool, slot='a', child='lib'):
    """A kind that forks a child, and then waits."""
    return (name, ('a', 'b'), (('fork', child, 'm', slot, 1), ('wait', rows, pool, 2, ()), ('exit', 0)))


class RestingTest(unittest.TestCase):
    def test_examples(self):
        self.assertEqual([stuck_states(NIGHT, 'z'), rest_table(NIGHT, 'main')[1], rest_account(NIGHT, 'z')[2]],
                         [((1, ((0, 0),)),), ((1, ()), NONE, EVEN), (((1, 2), (), 0), NONE)])
        self.assertEqual([tags_at_rest(NIGHT), rest_probe('z', 1, 1)[1]], [(('z', 'm'),), 2])

    def test_waits_by_hand(self):
        """A slot that never fills lets none be; one that never ends, or ends beside a pool, does not."""
        row = (('a', 2, 2, 2),)
        far = (('b', 2, 2, 2),)
        for kind, stuck in ((waits('k', row, -1), ()), (waits('k', far, -1), ()), (waits('k', row, 2), ()),
                            (waits('k', (), 2), ((1, ((0, 0), ())),)), (waits('k', far, 2), ((1, ((0, 0), ())),)),
                            (waits('k', (), 2, ''), ()), (waits('k', row, 2, ''), ())):
            self.assertEqual(stuck_states((kind, LIB), 'k'), stuck)
            self.assertIs(sleeps((kind, LIB), 'k'), stuck != ())
        for kind, stuck in ((waits('k', row, -1, 'a', 'z'), ((1, ((0, -1), ())),)), (waits('k', far, -1, 'a', 'z'), ()),
                            (waits('k', row, 2, 'a', 'z'), ((1, ((0, -1), ())),)), (waits('k', far, -1, '', 'z'), ()),
                            (waits('k', (), 2, '', 'z'), ((1, ((), ())),)), (waits('k', row, 2, '', 'z'), ((1, ((), ())),))):
            self.assertEqual(stuck_states((kind, Z, LIB), 'k'), stuck)
        awake = ('awake', (), (('go', (0,)),))
        for rows, pool, slot in ((row, -1, 'a'), ((), 2, ''), ((), 2, 'a'), (row, 2, 'a')):
            self.assertEqual(stuck_states((waits('k', rows, pool, slot, 'awake'), awake), 'k'), ())

    def test_polls_and_loops_do_not_sleep(self):
        for kind in (('k', ('a',), (('fork', 'lib', 'm', 'a', 1), ('poll', (), 2, 2, 1, ()), ('exit', 0))),
                     ('k', (), (('go', (0,)),)), ('k', (), (('exit', 1),)), ('k', (), (('wait', (), 0, 0, ()),))):
            self.assertIs(sleeps((kind, LIB), 'k'), False)
            self.assertEqual(rest_table((kind, LIB), 'k'), tuple((state, told, NONE) for state, told, late in
                                                                 table_of((kind, LIB), 'k') if told != NONE))

    def test_endless_numbers(self):
        state = (5, ((),))
        row = [row for row in rest_table(DEEP, 'herd') if row[0] == state][0]
        self.assertEqual(row, (state, ((), (0,), 1), ((), (0,), 1)))
        self.assertEqual(stuck_states(DEEP, 'herd'), ((5, ((4, -1),)),))
        self.assertEqual(stuck_states(DEEP, 'deep'), ((1, ((0, -1),)),))
        self.assertEqual(rest_account(DEEP, 'herd')[1], (((), (1,), 1), ((), (1,), 1)))
        two = ('herd', (), (('go', (1, 3)), ('fork', 'lib', 'u', '', 2), ('fork', 'lib', 'u', '', 0), ('fork', 'z', 'v', '', 4),
                            ('wait', (), 5, 5, ()), ('exit', 0)))
        self.assertEqual(rest_table((two, Z, LIB), 'herd')[-2:], (((4, ()), NONE, ((), (0,), 2)), ((5, ()), NONE, ((), (1,), 2))))
        self.assertEqual([row[1:] for row in rest_table((two, Z, LIB), 'herd') if row[0] == (1, ())], [(((), (0,), 2), NONE)])
        self.assertEqual(rest_account((two, Z, LIB), 'herd')[0], (NONE, ((), (2,), 2)))

    def test_settled_without_resting_and_the_other_way_round(self):
        rows = dict((row[0], row[1:]) for row in rest_table(NIGHT, 'main'))
        self.assertEqual(rows[(0, ())], (EVEN, NONE))
        self.assertEqual(rows[(1, ())], (NONE, EVEN))
        # A state with unsettled numbers alone, none of them resting, has no row.
        busy = (('main', (), (('fork', 'loop', 't', '', 1), ('exit', 0))), ('loop', (), (('go', (0,)),)))
        self.assertEqual(rest_table(busy, 'main'), (((0, ()), EVEN, NONE),))
        self.assertEqual(rest_account(busy, 'main'), ((NONE, NONE), (NONE, NONE), (((1,), (), 0), NONE)))

    def test_against_all_trees(self):
        met = {'stuck': 0, 'resting': 0, 'account': 0, 'tags': 0}
        for system in list(SYSTEMS) + [cut_at(DEEP, 'herd'), DEEP, NIGHT] + sleepy_systems(510, 100, places=5) + sleepy_systems(519, 50, places=5, kinds=2, tail=(Z, LIB)) + lively_systems(511, 15):
            tags = tags_at_rest(system)
            for kind in system[:2]:
                found = RestFound(cut_at(system, kind[0]), 9, 1500)
                rows = {row[0]: row[1:] for row in rest_table(system, kind[0])}
                self.assertTrue(found.stuck <= set(stuck_states(system, kind[0])))
                for told, at in ((found.settled, 0), (found.resting, 1)):
                    for state, numbers in told.items():
                        self.assertTrue(all(has_number(rows[state][at], n) for n in numbers))
                account = rest_account(system, kind[0])
                for (code, late), numbers in found.account.items():
                    self.assertTrue(all(has_number(account[code][late], n) for n in numbers), (system, code, late))
                self.assertTrue({(kind[0], tag) for tag in found.tags} <= set(tags))
                met['stuck'] += len(found.stuck)
                met['resting'] += len(found.resting)
                met['account'] += sum(late for _, late in found.account)
                met['tags'] += len(found.tags)
        self.assertTrue(min(met.values()) > 30, met)

    def test_against_the_rules(self):
        """The same numbers as the rules of [33] and [51] give, number by number."""
        met = {'stuck': 0, 'resting': 0, 'ends': 0}
        for system in list(SYSTEMS) + list(SLEEPY) + sleepy_systems(512, 200) + sleepy_systems(518, 60, tail=(Z, LIB)) + lively_systems(513, 40) + random_systems(514, 20):
            stuck, tables, accounts = played_rest(system, 12)
            for kind in system:
                name = kind[0]
                self.assertTrue(same(stuck_states(system=system, kind=name), tuple(sorted({counted[0] for counted in stuck[name]}))))
                self.assertIs(sleeps(system=system, kind=name), bool(stuck[name]))
                met['stuck'] += len(stuck[name])
                rows = rest_table(system=system, kind=name)
                self.assertEqual([row[0] for row in rows], sorted({counted[0] for counted in tables[name]}))
                for state, *told in rows:
                    self.assertTrue(is_state_of(kind, state))
                    for living in (False, True):
                        right = {n for at, n, _, alive in tables[name] if (at, alive) == (state, living) and n <= 5}
                        self.assertEqual({n for n in members(told[living]) if n <= 5}, right)
                        met['resting'] += living and bool(right)
                account = rest_account(system=system, kind=name)
                for code in (0, 1, 2):
                    for late in (0, 1):
                        right = {n for n, _ in accounts[name].get((code, late), ()) if n <= 5}
                        self.assertEqual({n for n in members(account[code][late]) if n <= 5}, right)
                        met['ends'] += late and bool(right)
        self.assertTrue(min(met.values()) > 50, met)

    def test_resting_numbers_are_unsettled_ones(self):
        for system in list(SLEEPY) + sleepy_systems(515, 60):
            for kind in system:
                table = {row[0]: row[1:] for row in table_of(system, kind[0])}
                for state, settled, resting in rest_table(system, kind[0]):
                    self.assertEqual(settled, table[state][0])
                    self.assertTrue(members(resting) <= members(table[state][1]))
                for pair, whole in zip(rest_account(system, kind[0]), account_of(system, kind[0])):
                    self.assertEqual(pair[0], whole[0])
                    self.assertTrue(members(pair[1]) <= members(whole[1]))

    def test_drawn_runs(self):
        """[9] (F6) The trees behind drawn runs that are at rest are in stuck states; what lies there has a tag that is told."""
        rng = random.Random(516)
        met = 0
        for system in list(SLEEPY) * 20 + sleepy_systems(517, 250):
            run = random_run(rng, system, 60)
            model = model_behind(system, run)
            if not model.steps() and model.living() and model.all[0].code == -1:
                met += 1
                first = model.all[0]
                self.assertIn(first.place, [state[0] for state in stuck_states(system, first.kind)])
                for child in model.children(0):
                    if child.code != -1:
                        self.assertIn((first.kind, child.tag), tags_at_rest(system))
            for process in model.living() if not model.steps() else ():
                self.assertTrue(sleeps(system, process.kind))
        self.assertGreater(met, 20)

    def test_refused(self):
        for call in (sleeps, stuck_states, rest_table, rest_account):
            for wrong in odd_values() + [(), SYSTEM[:2]]:
                self.assertEqual(refusal(call, wrong, None), not_usable('system'))
            for wrong in odd_values() + ['nosuch', 0, ('main',)]:
                self.assertEqual(refusal(call, SYSTEM, wrong), not_usable('kind'))
        for wrong in odd_values() + [(), SYSTEM[:2]]:
            self.assertEqual(refusal(tags_at_rest, wrong), not_usable('system'))


class TagsAtRestTest(unittest.TestCase):
    def test_by_hand(self):
        row = (('a', 2, 2, 2),)
        both = ('both', ('a', 'b'), (('fork', 'z', 'p', 'a', 1), ('fork', 'lib', 'q', 'b', 2), ('fork', 'lib', 'r', '', 3),
                                     ('wait', (('a', 4, 4, 4),), -1, 4, ()), ('exit', 0)))
        self.assertEqual(tags_at_rest((both, Z, LIB)), (('both', 'q'), ('both', 'r'), ('z', 'm')))
        pool = ('pool', ('a', 'b'), (*both[2][:3], ('wait', (('a', 4, 4, 4),), 4, 4, ()), both[2][4]))
        self.assertEqual(tags_at_rest((pool, Z, LIB)), (('z', 'm'),))
        self.assertEqual(tags_at_rest((waits('k', row, -1, 'a', 'z'), Z, LIB)), (('z', 'm'),))
        self.assertEqual(tags_at_rest((waits('k', (), 2), LIB)), (('k', 'm'),))
        self.assertEqual(tags_at_rest(SYSTEM), ())
        # A child sleeps in the pool from the beginning: with a tag there are numbers beside a living one alone.
        beside = ('both', ('a',), (('fork', 'z', 'p', '', 1), ('fork', 'lib', 'q', '', 2), ('fork', 'z', 'r', 'a', 3),
                                   ('wait', (('a', 4, 4, 4),), -1, 4, ()), ('exit', 0)))
        self.assertEqual(rest_table((beside, Z, LIB), 'both')[-1], ((3, ((2, -1),)), NONE, ((1,), (), 0)))
        self.assertEqual(tags_at_rest((beside, Z, LIB)), (('both', 'q'), ('z', 'm')))
        # Kinds that do not come have own runs, too.
        self.assertEqual(tags_at_rest((('front', (), (('exit', 0),)), *NIGHT)), (('z', 'm'),))

    def test_against_the_rules(self):
        met = 0
        for system in sleepy_systems(520, 150) + list(SLEEPY):
            tags = {place[2] for kind in system for place in kind[2] if place[0] == 'fork'}
            right = {(name, tag) for tag in tags for name in tagged_at_rest(system, tag)}
            self.assertTrue(same(tags_at_rest(system=system), tuple(sorted(right))))
            met += len(right)
        self.assertGreater(met, 60)


class RestProbeTest(unittest.TestCase):
    def test_place_by_place(self):
        for code in (0, 1, 2):
            for number in (1, 2, 3, 7):
                for called in ('probe', 'x', 'abcdefgh'):
                    kind, place = settled_probe('work', code, number, called=called)
                    told, at = rest_probe('work', code, number, called=called)
                    self.assertEqual(at, place - 1)
                    self.assertTrue(same(told[:2], kind[:2]))
                    last = len(kind[2]) - 1
                    self.assertEqual(kind[2][at], ('wait', (), last, place, ()))
                    self.assertTrue(same(told[2][at], ('wait', (), last, last, ())))
                    self.assertTrue(same(told[2][:at] + told[2][at + 1:], kind[2][:at] + kind[2][at + 1:]))
        self.assertEqual(rest_probe(kind='z', code=0, number=2),
                         (('probe', ('a',), (('fork', 'z', 'x', 'a', 1), ('wait', (('a', 2, 5, 5),), -1, 5, ()),
                                             ('wait', (), 3, 5, ()), ('wait', (), 5, 5, ()), ('exit', 0), ('exit', 1))), 3))

    def test_in_front(self):
        """[54] The probe is stuck at its place exactly if the number is a resting one of the code."""
        met = {True: 0, False: 0}
        for system in list(SLEEPY) + sleepy_systems(530, 60) + [SYSTEM]:
            for kind in system:
                account = rest_account(system, kind[0])
                for code in (0, 1, 2):
                    for number in (1, 2, 3):
                        probe, place = rest_probe(kind[0], code, number)
                        states = stuck_states(with_kind(system, probe), 'probe')
                        right = has_number(account[code][1], number)
                        self.assertIs(place in [state[0] for state in states], right)
                        met[right] += 1
        self.assertTrue(min(met.values()) > 30, met)

    def test_refused(self):
        for wrong in odd_values() + ['Work', 0]:
            self.assertEqual(refusal(rest_probe, wrong, None, None, called=None), not_usable('kind'))
        for wrong in odd_values() + [3, '0']:
            self.assertEqual(refusal(rest_probe, 'z', wrong, None, called=None), not_usable('code'))
        for wrong in odd_values() + [0, '1']:
            self.assertEqual(refusal(rest_probe, 'z', 2, wrong, called=None), not_usable('number'))
        for wrong in odd_values() + ['z', 0]:
            self.assertEqual(refusal(rest_probe, 'z', 2, 1, called=wrong), not_usable('called'))
        with self.assertRaises(TypeError):
            rest_probe('z', 2, 1, 'probe')


class AlikeAtRestTest(unittest.TestCase):
    def check(self, system, old, new, right):
        self.assertIs(alike_at_rest(system=system, old=old, new=new), right)
        self.assertIs(alike_at_rest(system, new, old), right)

    def test_what_tells(self):
        one = ('one', (), (('exit', 0),))
        late = ('late', (), (('go', (0, 1)), ('exit', 0)))
        more = ('more', (), (('fork', 'lib', 't', '', 1), ('exit', 0)))
        night = ('night', (), (('fork', 'z', 't', '', 1), ('exit', 0)))
        day = ('day', (), (('fork', 'loop', 't', '', 1), ('exit', 0)))
        loop = ('loop', (), (('go', (0,)),))
        system = (one, late, more, night, day, loop, Z, LIB)
        self.check(system, 'one', 'one', True)
        self.check(system, 'one', 'late', True)
        self.check(system, 'one', 'lib', True)
        self.check(system, 'one', 'more', False)
        # night and day: the same settled numbers and the same reach, but only night comes to rest behind its end.
        self.assertEqual([account_of(system, name)[0][0] for name in ('night', 'day')], [NONE, NONE])
        self.assertEqual([reach_of(system, name, code) for name in ('night', 'day') for code in (0, 1)], [1, -1, 1, -1])
        self.check(system, 'night', 'day', False)

    def test_sleep_alone(self):
        wake = ('wake', ('a',), (('fork', 'lib', 'm', 'a', 1), ('go', (1, 2)), ('exit', 0)))
        sleep = ('sleep', ('a',), (('fork', 'lib', 'm', 'a', 1), ('go', (1, 2, 3)), ('exit', 0), ('wait', (), 2, 2, ())))
        system = (wake, sleep, LIB)
        self.assertEqual(account_of(system, 'wake'), account_of(system, 'sleep'))
        self.assertEqual(rest_account(system, 'wake'), rest_account(system, 'sleep'))
        self.check(system, 'wake', 'sleep', False)

    def test_reach_alone(self):
        loop = ('loop', (), (('go', (0,)),))
        short = ('short', (), (('go', (0, 1)), ('fork', 'loop', 't', '', 2), ('exit', 0)))
        long = ('long', (), (('go', (0, 1)), ('fork', 'loop', 't', '', 2), ('fork', 'loop', 't', '', 3), ('exit', 0)))
        lib = ('far', (), (('go', (0, 1)), ('fork', 'lib', 't', '', 2), ('fork', 'loop', 't', '', 3), ('exit', 0)))
        system = (short, long, lib, loop, LIB)
        self.check(system, 'short', 'long', True)
        self.assertEqual([reach_of(system, name, 0) for name in ('short', 'far')], [1, 2])
        self.check(system, 'short', 'far', False)

    def test_against_the_words(self):
        met = {True: 0, False: 0}
        for system in list(SLEEPY) + sleepy_systems(540, 60):
            for old in system:
                for new in system:
                    pair = (old[0], new[0])
                    right = (len({repr(rest_account(system, name)) for name in pair}) == 1
                             and len({sleeps(system, name) for name in pair}) == 1
                             and all(reach_of(system, pair[0], code) == reach_of(system, pair[1], code) for code in (0, 1, 2)))
                    self.assertIs(alike_at_rest(system, *pair), right)
                    met[right and pair[0] != pair[1]] += 1
        self.assertTrue(min(met.values()) > 5, met)

    def test_refused(self):
        for wrong in odd_values() + [(), SYSTEM[:2]]:
            self.assertEqual(refusal(alike_at_rest, wrong, None, None), not_usable('system'))
        for wrong in odd_values() + ['nosuch', 0, ('main',)]:
            self.assertEqual(refusal(alike_at_rest, SYSTEM, wrong, None), not_usable('old'))
            self.assertEqual(refusal(alike_at_rest, SYSTEM, 'main', wrong), not_usable('new'))
        self.assertEqual(first_numbers(rest_account((WORK, LIB), 'work')[0][0], 3), (2,))
        self.assertEqual((MAIN[0], BUSY[0][0]), ('main', 'top'))


if __name__ == '__main__':
    unittest.main()

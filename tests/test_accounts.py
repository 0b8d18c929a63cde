"""[37], and what [44] says of accounts."""

import random
import unittest

from forkyields.accounts import account_of, reach_of
from forkyields.numbersets import has_number, is_number_set, joined_sets, moved_set
from forkyields.systemchanges import with_kind
from forkyields.systemparts import cut_at
from tests.brute import Found
from tests.model import Model, random_run
from tests.ruleplay import played_tables
from tests.samples import BUSY, LIB, SYSTEM, SYSTEMS, WORK, lively_systems, not_usable, odd_values, random_systems, refusal

NONE = ((), (), 0)
FROM_1 = ((), (1,), 1)
LOOP = ('loop', (), (('go', (1, 2)), ('fork', 'lib', 'm', '', 0), ('exit', 0)))
EVEN = ('even', (), (('fork', 'lib', 'm', '', 1), ('fork', 'lib', 'm', '', 2), ('go', (0, 3)), ('exit', 1)))


def some(*numbers):
    return (numbers, (), 0)


def whole_programs(first, second):
    """A kind that goes at first to one of the whole programs of two others with the same slots."""
    def moved(instruction, by):
        word, *parts = instruction
        if word == 'go':
            return (word, tuple(target + by for target in parts[0]))
        if word in ('wait', 'poll'):
            rows = tuple((slot, a + by, b + by, c + by) for slot, a, b, c in parts[0])
            pool = parts[1] if parts[1] == -1 else parts[1] + by
            return (word, rows, pool, *[target + by for target in parts[2:-1]], parts[-1])
        return instruction if word == 'exit' else (word, *parts[:-1], parts[-1] + by)

    places = [moved(place, 1) for place in first[2]]
    more = [moved(place, 1 + len(places)) for place in second[2]]
    return ('both', first[1], (('go', (1, 1 + len(places))), *places, *more))


class AccountsTest(unittest.TestCase):
    def test_example(self):
        self.assertEqual(account_of(SYSTEM, 'work'), (
            (((2,), (), 0), ((1,), (), 0)), (((), (), 0), ((), (), 0)), (((1, 2), (), 0), ((1,), (), 0))))
        self.assertEqual([reach_of(SYSTEM, 'work', 0), reach_of(SYSTEM, 'work', 1)], [1, -1])

    def test_small(self):
        self.assertEqual(account_of((LIB,), 'lib'), ((some(1), NONE), (NONE, NONE), (some(1), NONE)))
        self.assertEqual([reach_of((LIB,), 'lib', code) for code in (0, 1, 2)], [0, -1, 0])
        # A child in a slot counts as well, when its parent ends: it has ended, or it lives.
        slot = ('slot', ('a',), (('fork', 'lib', 'm', 'a', 1), ('exit', 1)))
        self.assertEqual(account_of((slot, LIB), 'slot'), ((NONE, NONE), (some(2), some(1)), (some(1, 2), some(1))))
        self.assertEqual([reach_of((slot, LIB), 'slot', code) for code in (0, 1, 2)], [-1, 1, 1])
        stays = ('stays', (), (('go', (0,)),))
        self.assertEqual(account_of((stays,), 'stays'), ((NONE, NONE), (NONE, NONE), (some(1), NONE)))
        taker = ('taker', (), (('fork', 'work', 'm', '', 1), ('wait', (), 2, 1, ()), ('exit', 0)))
        self.assertEqual(account_of((taker, WORK, LIB), 'taker')[0], (some(2), some(1)))

    def test_endless(self):
        self.assertEqual(account_of((LOOP, LIB), 'loop'), ((FROM_1, FROM_1), (NONE, NONE), (FROM_1, FROM_1)))
        self.assertEqual([reach_of((LOOP, LIB), 'loop', code) for code in (0, 1, 2)], [None, -1, None])
        settled, unsettled = account_of((EVEN, LIB), 'even')[1]
        self.assertEqual((settled, unsettled), (((), (3,), 2), FROM_1))
        self.assertEqual([reach_of((EVEN, LIB), 'even', code) for code in (0, 1, 2)], [-1, None, None])
        # Settled numbers alone: a loop that kills what it forks, so that nothing lives.
        clean = ('clean', ('a',), (('fork', 'still', 'm', 'a', 1), ('kill', 'a', 2), ('go', (0, 3)), ('exit', 0)))
        still = ('still', (), (('go', (0,)),))
        self.assertEqual(account_of((clean, still), 'clean')[0], (((), (2,), 1), NONE))
        self.assertEqual(reach_of((clean, still), 'clean', 0), None)

    def test_unsettled_and_settled_reach(self):
        """The reach is the greatest of the unsettled numbers and of the settled ones less 1."""
        lazy = ('lazy', (), (('fork', 'stays', 'm', '', 1), ('fork', 'lib', 'm', '', 2), ('exit', 0)))
        system = (lazy, ('stays', (), (('go', (0,)),)), LIB)
        self.assertEqual(account_of(system, 'lazy')[0], (NONE, some(1, 2)))
        self.assertEqual(reach_of(system, 'lazy', 0), 2)

    def test_against_the_rules(self):
        reaches = set()
        for system in list(SYSTEMS) + random_systems(370, 30) + lively_systems(371, 60, places=8):
            played = played_tables(system, 24)[1]
            for kind in system:
                account = account_of(system=system, kind=kind[0])
                for code in (0, 1, 2):
                    for late in (0, 1):
                        self.assertTrue(is_number_set(account[code][late]))
                        numbers = {n for n, _ in played[kind[0]].get((code, late), ()) if n <= 7}
                        self.assertEqual({n for n in range(8) if has_number(account[code][late], n)}, numbers)
                    reaches.add(self.right_reach(system, kind[0], code, account[code]))
        self.assertTrue(reaches >= {None, -1, 0, 1, 2})

    def right_reach(self, system, kind, code, pair):
        settled, unsettled = pair
        if settled[2] or unsettled[2]:
            reach = None
        else:
            reach = max([n for n in unsettled[0]] + [n - 1 for n in settled[0]] + [-1])
        self.assertEqual(reach_of(system=system, kind=kind, code=code), reach)
        return reach

    def test_against_all_trees(self):
        met = 0
        for system in list(SYSTEMS) + lively_systems(372, 40, places=8):
            account = account_of(system, system[0][0])
            for (code, late), numbers in Found(system, 9, 3000).account.items():
                self.assertTrue(all(has_number(account[code][late], n) for n in numbers))
                met += len(numbers)
        self.assertGreater(met, 150)

    def test_long_runs(self):
        """[9] What accounts tell holds in runs of many steps, for each process of a system that ends or is killed."""
        rng = random.Random(376)
        met = set()
        for system in list(SYSTEMS) + lively_systems(377, 60):
            accounts = {kind[0]: account_of(system, kind[0]) for kind in system}
            model = Model(system)
            for step in random_run(rng, system, 150):
                before = {process.number: model.children(process.number) for process in model.living()}
                dead = {number: sum(child.code != -1 for child in children) for number, children in before.items()}
                model.do(step)
                for process in model.all:
                    if process.code != -1 and process.number in before:
                        late = dead[process.number] < len(before[process.number])
                        number = 1 + dead[process.number]
                        self.assertTrue(has_number(accounts[process.kind][process.code][late], number))
                        met.add((process.code, late, process.number > 0, number > 1))
                first = model.all[0]
                if first.code != -1:
                    ends = sum(process.code != -1 and process.parent == -1 for process in model.there())
                    self.assertTrue(has_number(accounts[first.kind][first.code][bool(model.living())], ends))
        self.assertGreater(len(met), 15)

    def test_own_runs(self):
        self.assertEqual(account_of((LIB, *BUSY), 'mid'), account_of(BUSY, 'mid'))
        for system in lively_systems(373, 20):
            for kind in system:
                self.assertEqual(account_of(system, kind[0]), account_of(cut_at(system, kind[0]), kind[0]))

    def test_two_whole_programs(self):
        met = 0
        rng = random.Random(374)
        for system in list(SYSTEMS) + lively_systems(374, 80):
            pairs = [(first, second) for first in system for second in system if first[1] == second[1] and first != second]
            for first, second in rng.sample(pairs, min(2, len(pairs))):
                both = with_kind(system, whole_programs(first, second))
                joined = tuple(tuple(joined_sets(*sets) for sets in zip(*pair))
                               for pair in zip(account_of(system, first[0]), account_of(system, second[0])))
                self.assertEqual(account_of(both, 'both'), joined)
                met += 1
        self.assertGreater(met, 30)

    def test_fork_and_exit(self):
        for system in list(SYSTEMS) + [(LOOP, LIB), (EVEN, LIB)] + lively_systems(375, 40):
            for kind in system:
                parent = ('parent', (), (('fork', kind[0], 't', '', 1), ('exit', 0)))
                (settled, unsettled), _, _ = account_of(with_kind(system, parent), 'parent')
                account = account_of(system, kind[0])
                self.assertEqual(settled, moved_set(joined_sets(account[0][0], account[1][0]), 1))
                self.assertEqual(unsettled, joined_sets(some(1), moved_set(joined_sets(account[0][1], account[1][1]), 1)))

    def test_refused(self):
        for wrong in odd_values() + [(), SYSTEM[:2]]:
            self.assertEqual(refusal(account_of, wrong, None), not_usable('system'))
            self.assertEqual(refusal(reach_of, wrong, None, None), not_usable('system'))
        for wrong in odd_values() + ['nosuch', 0, ('main',)]:
            self.assertEqual(refusal(account_of, SYSTEM, wrong), not_usable('kind'))
            self.assertEqual(refusal(reach_of, SYSTEM, wrong, None), not_usable('kind'))
        for wrong in odd_values() + [3, 10 ** 59, '0', (0,)]:
            self.assertEqual(refusal(reach_of, SYSTEM, 'work', wrong), not_usable('code'))


if __name__ == '__main__':
    unittest.main()

"""[33], [35]: the tables of a system, rule by rule, against the rules played by number and against all trees."""

import random
import unittest

from forkyields.errors import InvalidPaper
from forkyields.numbersets import has_number, is_number_set
from forkyields.states import pool_of, state_of
from forkyields.systemparts import cut_at
from forkyields.tablechecker import lets_tables
from forkyields.tables import table_of, tables_of
from forkyields.trees import tree_after
from tests.brute import Found
from tests.model import random_run
from tests.ruleplay import played_tables
from tests.samples import (
    BUSY, KEEPER, LIB, SYSTEM, SYSTEMS, WORK, lively_systems, not_usable, odd_values, random_systems, refusal, same)

NONE = ((), (), 0)
ANY = ((), (0,), 1)
FROM_1 = ((), (1,), 1)
LOOP = ('loop', (), (('go', (1, 2)), ('fork', 'lib', 'm', '', 0), ('exit', 0)))
CODES = ('codes', (), (('go', (1, 2)), ('exit', 0), ('exit', 1)))


CODES_LOW = ('low', (), CODES[2])


def some(*numbers):
    return (numbers, (), 0)


def main(*places, slots=()):
    return ('main', slots, places)


def told(system, most):
    """The members of the tables of a system up to a number: sets by (kind, state, living)."""
    found = {}
    for kind, table in zip(system, tables_of(system)):
        for row in table:
            for living in (False, True):
                numbers = {n for n in range(most + 1) if has_number(row[1 + living], n)}
                if numbers:
                    found[(kind[0], row[0], living)] = numbers
    return found


class RulesTest(unittest.TestCase):
    """Each rule by itself."""

    def rows(self, *kinds):
        rows = table_of(kinds, kinds[0][0])
        self.assertEqual(lets_tables(kinds, tables_of(kinds)), sum(map(len, tables_of(kinds))))
        return {state: (settled, unsettled) for state, settled, unsettled in rows}

    def test_go(self):
        rows = self.rows(main(('go', (1, 2)), ('exit', 0), ('go', (2,))))
        self.assertEqual(rows, {(p, ()): (some(0), NONE) for p in range(3)})

    def test_fork_into_the_pool(self):
        rows = self.rows(main(('fork', 'lib', 'm', '', 1), ('exit', 0)), LIB)
        self.assertEqual(rows, {(0, ()): (some(0), NONE), (1, ()): (some(1), some(0))})
        rows = self.rows(main(('fork', 'work', 'm', '', 1), ('exit', 0)), WORK, LIB)
        self.assertEqual(rows[(1, ())], (some(2), some(0, 1)))
        rows = self.rows(main(('fork', 'codes', 'm', '', 1), ('fork', 'codes', 'm', '', 2), ('exit', 0)), CODES)
        self.assertEqual(rows[(2, ())], (some(2), some(0, 1)))
        rows = self.rows(main(('fork', 'loop', 'm', '', 1), ('exit', 0)), LOOP, LIB)
        self.assertEqual(rows[(1, ())], (FROM_1, ANY))

    def test_fork_into_a_slot(self):
        rows = self.rows(main(('fork', 'work', 'm', 'a', 1), ('exit', 0), slots=('a',)), WORK, LIB)
        self.assertEqual(rows, {(0, ((),)): (some(0), NONE), (1, ((0, -1),)): (some(0), NONE),
                                (1, ((0, 0),)): (some(1), some(0))})
        rows = self.rows(main(('fork', 'codes', 'm', 'b', 1), ('exit', 0), slots=('a', 'b')), CODES)
        self.assertEqual(set(rows), {(0, ((), ())), (1, ((), (0, -1))), (1, ((), (0, 0))), (1, ((), (0, 1)))})

    def test_fork_into_a_filled_slot(self):
        rows = self.rows(main(('fork', 'lib', 'm', 'a', 1), ('fork', 'codes', 'm', 'a', 2), ('exit', 0), slots=('a',)),
                         LIB, CODES)
        for code in (-1, 0, 1):
            self.assertEqual(rows[(2, ((1, code),))], (some(1), some(0)))
        rows = self.rows(main(('fork', 'lib', 'm', 'a', 1), ('fork', 'work', 'm', 'a', 2), ('exit', 0), slots=('a',)),
                         WORK, LIB)
        self.assertEqual(rows[(2, ((1, -1),))], (some(1), some(0)))
        self.assertEqual(rows[(2, ((1, 0),))], (some(2), some(0, 1)))

    def test_kill(self):
        rows = self.rows(main(('fork', 'work', 'm', 'a', 1), ('kill', 'a', 2), ('exit', 0), slots=('a',)), WORK, LIB)
        self.assertEqual(rows[(2, ((0, 2),))], (some(0, 1), some(0)))
        self.assertEqual(rows[(2, ((0, 0),))], (some(1), some(0)))
        self.assertNotIn((2, ((0, -1),)), rows)
        rows = self.rows(main(('kill', 'a', 1), ('exit', 0), slots=('a',)), LIB)
        self.assertEqual(rows[(1, ((),))], (some(0), NONE))
        rows = self.rows(main(('fork', 'loop', 'm', 'a', 1), ('kill', 'a', 2), ('kill', 'a', 3), ('exit', 0), slots=('a',)),
                         LOOP, LIB)
        self.assertEqual(rows[(3, ((0, 2),))], (ANY, ANY))

    def test_release(self):
        rows = self.rows(main(('fork', 'codes', 'm', 'a', 1), ('release', 'a', 2), ('exit', 0), slots=('a',)), CODES)
        self.assertEqual(rows[(2, ((),))], (some(1), some(0)))
        self.assertEqual({state for state in rows if state[0] == 2}, {(2, ((),))})
        rows = self.rows(main(('release', 'a', 1), ('exit', 0), slots=('a',)), LIB)
        self.assertEqual(rows[(1, ((),))], (some(0), NONE))

    def test_take_from_a_slot(self):
        rows = self.rows(main(('fork', 'codes', 'm', 'a', 1), ('go', (2, 3)), ('kill', 'a', 3),
                              ('wait', (('a', 4, 5, 6),), -1, 7, ()), ('exit', 0), ('exit', 0), ('exit', 0), ('exit', 1),
                              slots=('a',)), CODES)
        ends = {state for state in rows if state[0] > 3}
        self.assertEqual(ends, {(p, ((),)) for p in (4, 5, 6)})

    def test_take_from_the_pool(self):
        fork = ('fork', 'work', 'm', '', 1)
        rows = self.rows(main(fork, ('wait', (), 2, 3, ()), ('wait', (), 2, 3, ()), ('exit', 0)), WORK, LIB)
        self.assertEqual(rows[(2, ())], (some(0, 1), some(0)))
        self.assertEqual(rows[(3, ())], (some(0), NONE))
        rows = self.rows(main(fork, ('wait', (), 2, 3, ()), ('exit', 0), ('exit', 1)), WORK, LIB)
        self.assertNotIn((3, ()), rows)

    def test_none(self):
        rows = self.rows(main(('wait', (), 1, 2, ()), ('exit', 0), ('exit', 1)))
        self.assertEqual(set(rows), {(0, ()), (2, ())})
        rows = self.rows(main(('fork', 'lib', 'm', '', 1), ('wait', (('a', 2, 2, 2),), -1, 3, ()), ('exit', 0), ('exit', 1),
                              slots=('a',)), LIB)
        self.assertEqual(rows[(3, ((),))], (some(1), some(0)))
        # With a pool a child in a slot that the wait does not look at hinders, too.
        rows = self.rows(main(('fork', 'lib', 'm', 'a', 1), ('wait', (), 2, 3, ()), ('exit', 0), ('exit', 1), slots=('a',)),
                         LIB)
        self.assertEqual({state[0] for state in rows}, {0, 1})
        # Without a pool only the slots of the rows do.
        rows = self.rows(main(('fork', 'lib', 'm', 'a', 1), ('wait', (('b', 2, 2, 2),), -1, 3, ()), ('exit', 0), ('exit', 1),
                              slots=('a', 'b')), LIB)
        self.assertEqual({state[0] for state in rows}, {0, 1, 3})

    def test_later(self):
        poll = ('poll', (), 2, 3, 4, ())
        ends = (('exit', 0), ('exit', 0), ('exit', 1))
        rows = self.rows(main(('fork', 'lib', 'm', '', 1), poll, *ends), LIB)
        self.assertEqual(rows[(4, ())], (some(1), some(0)))
        self.assertEqual(rows[(2, ())], (some(0), NONE))
        self.assertNotIn((3, ()), rows)
        rows = self.rows(main(('go', (1,)), poll, *ends), LIB)
        self.assertEqual(rows[(3, ())], (some(0), NONE))
        self.assertNotIn((4, ()), rows)
        rows = self.rows(main(('fork', 'lib', 'm', 'a', 1), poll, *ends, slots=('a',)), LIB)
        self.assertEqual({state for state in rows if state[0] > 1}, {(4, ((0, -1),)), (4, ((0, 0),))})
        for fork, places in (('a', {0, 1, 2, 4}), ('b', {0, 1, 3}), ('', {0, 1, 3})):
            rows = self.rows(main(('fork', 'lib', 'm', fork, 1), ('poll', (('a', 2, 2, 2),), -1, 3, 4, ()), *ends,
                                  slots=('a', 'b')), LIB)
            self.assertEqual({state[0] for state in rows}, places)

    def test_later_with_numbers_alone(self):
        """A poll with a pool that was emptied of living ones: later needs a number from 1 on."""
        poll = ('poll', (), 1, 2, 3, ())
        rows = self.rows(main(('fork', 'work', 'm', '', 1), poll, ('exit', 0), ('go', (3,))), WORK, LIB)
        self.assertEqual(rows[(1, ())], (some(0, 1, 2), some(0, 1)))
        self.assertEqual(rows[(3, ())], (some(1, 2), some(0, 1)))

    def test_exit(self):
        self.assertEqual(self.rows(main(('exit', 0), ('exit', 1))), {(0, ()): (some(0), NONE)})


class NumbersTest(unittest.TestCase):
    def test_example(self):
        self.assertEqual(table_of(SYSTEM, 'work'),
                         (((0, ()), ((0,), (), 0), ((), (), 0)), ((1, ()), ((1,), (), 0), ((0,), (), 0))))

    def test_endless(self):
        rows = {state: numbers for state, *numbers in table_of((LOOP, LIB), 'loop')}
        self.assertEqual(rows, {(p, ()): [ANY, ANY] for p in (0, 1, 2)})

    def test_periods(self):
        for period in (2, 3, 5):
            places = tuple(('fork', 'dead', 'm', '', p + 1) for p in range(period)) + (('go', (0, period + 1)), ('exit', 0))
            system = (main(*places), ('dead', (), (('exit', 0),)))
            rows = {state: numbers for state, *numbers in table_of(system, 'main')}
            for p in range(period):
                self.assertEqual(rows[(p, ())], [((), (p,), period), ANY])

    def test_steps_of_two_lengths(self):
        """Loops that add 3, and a take of one in two: numbers with gaps below, and all from some number on."""
        brings = ('brings', (), (('fork', 'lib', 'm', '', 1), ('fork', 'lib', 'm', '', 2), ('exit', 0)))
        system = (main(('go', (1, 2, 3)), ('fork', 'brings', 'm', '', 0), ('fork', 'five', 'm', '', 0), ('exit', 0)),
                  ('five', (), (('fork', 'brings', 'm', '', 1), ('fork', 'lib', 'm', '', 2), ('exit', 1))), brings, LIB)
        rows = {state: numbers for state, *numbers in table_of(system, 'main')}
        self.assertEqual(rows[(3, ())][0], ((0, 3, 5, 6), (8,), 1))

    def test_takes_of_two(self):
        """A loop that adds 1, and one that takes 2 and comes to another place: what is left has all numbers."""
        system = (main(('go', (1, 2)), ('fork', 'lib', 'm', '', 0), ('wait', (), 3, 4, ()), ('wait', (), 2, 4, ()),
                       ('exit', 0)), LIB)
        rows = {state: numbers for state, *numbers in table_of(system, 'main')}
        self.assertEqual(rows[(4, ())], [some(0), NONE])
        self.assertEqual(rows[(3, ())], [ANY, ANY])
        three = (main(('fork', 'lib', 'm', '', 1), ('fork', 'lib', 'm', '', 2), ('fork', 'lib', 'm', '', 3),
                      ('go', (0, 4)), ('wait', (), 5, 6, ()), ('wait', (), 4, 6, ()), ('exit', 0)), LIB)
        rows = {state: numbers for state, *numbers in table_of(three, 'main')}
        self.assertEqual(rows[(3, ())], [((), (3,), 3), ANY])
        self.assertEqual(rows[(5, ())][0], ANY)

    def test_many_states(self):
        """A kind that can do anything at any moment, with two slots: all states, all numbers."""
        forks = [('fork', 'low', 't', slot, 0) for slot in 'aaabbb']
        dense = main(('go', tuple(range(1, 13))), *forks, ('wait', (('a', 0, 0, 0), ('b', 0, 0, 0)), 0, 0, ()),
                     ('poll', (), 0, 0, 0, ()), ('kill', 'a', 0), ('kill', 'b', 0), ('release', 'a', 0), ('exit', 0),
                     slots=('a', 'b'))
        rows = {state: numbers for state, *numbers in table_of((dense, CODES_LOW), 'main')}
        contents = [()] + [(p, code) for p in (1, 2, 3) for code in (-1, 0, 1, 2)]
        others = [()] + [(p, code) for p in (4, 5, 6) for code in (-1, 0, 1, 2)]
        self.assertEqual(set(rows), {(p, (a, b)) for p in range(13) for a in contents for b in others})
        self.assertEqual({tuple(numbers) for numbers in rows.values()}, {(ANY, ANY)})

    def test_form(self):
        for system in list(SYSTEMS) + lively_systems(350, 40):
            for kind, table in zip(system, tables_of(system=system)):
                self.assertTrue(same(table, table_of(system=system, kind=kind[0])))
                self.assertIs(type(table), tuple)
                self.assertEqual([row[0] for row in table], sorted({row[0] for row in table}))
                for row in table:
                    self.assertEqual((type(row), len(row)), (tuple, 3))
                    self.assertTrue(is_number_set(row[1]) and is_number_set(row[2]))
                    self.assertNotEqual(row[1:], (NONE, NONE))

    def test_own_runs(self):
        """What is told of a kind is told of its own runs, whether it comes in the system or not."""
        self.assertEqual(table_of((LIB, *BUSY), 'mid'), table_of(BUSY, 'mid'))
        for system in lively_systems(351, 20):
            for kind in system:
                self.assertEqual(table_of(system, kind[0]), table_of(cut_at(system, kind[0]), kind[0]))

    def test_against_the_rules(self):
        periods = set()
        for system in list(SYSTEMS) + random_systems(352, 30) + lively_systems(353, 60, places=8):
            played = {}
            for name, counted in played_tables(system, 24)[0].items():
                for state, number, _, living in counted:
                    if number <= 7:
                        played.setdefault((name, state, living), set()).add(number)
            self.assertEqual(told(system, 7), played)
            periods |= {row[k][2] for table in tables_of(system) for row in table for k in (1, 2)}
        self.assertTrue(periods >= {0, 1, 2})

    def test_against_all_trees(self):
        met = 0
        for system in list(SYSTEMS) + lively_systems(354, 40, places=8):
            rows = {row[0]: row[1:] for row in table_of(system, system[0][0])}
            for (state, living), numbers in Found(system, 9, 3000).rows.items():
                self.assertTrue(all(has_number(rows[state][living], n) for n in numbers), (system, state))
                met += len(numbers)
        self.assertGreater(met, 300)

    def test_least(self):
        """No row and no number more: without any one of them tables are not closed."""
        for system in [SYSTEM, KEEPER, (LOOP, LIB), (main(('fork', 'loop', 'm', '', 1), ('exit', 0)), LOOP, LIB)] + \
                lively_systems(355, 12, kinds=2, places=5):
            tables = tables_of(system)
            self.assertEqual(lets_tables(system, tables), sum(map(len, tables)))
            for i, table in enumerate(tables):
                for k, row in enumerate(table):
                    for fewer in self.with_one_less(row):
                        changed = table[:k] + fewer + table[k + 1:]
                        with self.assertRaises(InvalidPaper):
                            lets_tables(system, tables[:i] + (changed,) + tables[i + 1:])

    def with_one_less(self, row):
        yield ()
        for at in (1, 2):
            early, repeats, period = row[at]
            for n in early:
                yield (row[:at] + ((tuple(m for m in early if m != n), repeats, period),) + row[at + 1:],)
            if period == 1:
                yield (row[:at] + ((early, (repeats[0] + 1,), 1),) + row[at + 1:],)

    def test_long_runs(self):
        """[9] What tables tell holds in runs of many steps, for each process of a system: states and pools."""
        rng = random.Random(356)
        for system in list(SYSTEMS) + lively_systems(357, 25):
            tables = {kind[0]: {row[0]: row[1:] for row in table} for kind, table in zip(system, tables_of(system))}
            run = random_run(rng, system, 120)
            for k in {len(run), *rng.sample(range(len(run) + 1), min(len(run), 12))}:
                for row in tree_after(system, run[:k]):
                    if row[4] == -1:
                        state, (dead, alive) = state_of(system, run[:k], row[0]), pool_of(system, run[:k], row[0])
                        self.assertTrue(has_number(tables[row[1]][state][1 if alive else 0], dead))

    def test_refused(self):
        for wrong in odd_values() + [(), SYSTEM[:2]]:
            self.assertEqual(refusal(table_of, wrong, None), not_usable('system'))
            self.assertEqual(refusal(tables_of, wrong), not_usable('system'))
        for wrong in odd_values() + ['nosuch', 0, ('main',)]:
            self.assertEqual(refusal(table_of, SYSTEM, wrong), not_usable('kind'))


if __name__ == '__main__':
    unittest.main()

"""[45]: the numbers of kinds with a tag."""

import unittest

from forkyields.accounts import account_of
from forkyields.numbersets import all_within, has_number, is_number_set
from forkyields.systemparts import cut_at, tags_in
from forkyields.tables import table_of
from forkyields.tagtables import tag_account, tag_table
from tests.brute import Found
from tests.ruleplay import played_tables
from tests.samples import (
    BUSY, LIB, SYSTEM, SYSTEMS, WORK, lively_systems, not_usable, odd_values, random_systems, refusal, same)

NONE = ((), (), 0)
ANY = ((), (0,), 1)
FROM_1 = ((), (1,), 1)
LOOP = ('loop', (), (('go', (1, 2)), ('fork', 'lib', 'm', '', 0), ('exit', 0)))


def some(*numbers):
    return (numbers, (), 0)


def main(*places, slots=()):
    return ('main', slots, places)


class TagTablesTest(unittest.TestCase):
    def rows(self, tag, *kinds):
        return {state: (settled, unsettled) for state, settled, unsettled in tag_table(kinds, kinds[0][0], tag)}

    def test_example(self):
        self.assertEqual(
            [tag_table(SYSTEM, 'work', 'x'), tag_account(SYSTEM, 'work', 'x')[0], tag_table(SYSTEM, 'work', 'm')],
            [(((1, ()), ((1,), (), 0), ((), (), 0)),), (((2,), (), 0), ((), (), 0)), ()])

    def test_forked_into_the_pool(self):
        system = (main(('fork', 'lib', 't', '', 1), ('fork', 'lib', 'u', '', 2), ('exit', 0)), LIB)
        self.assertEqual(self.rows('t', *system), {(1, ()): (some(1), NONE), (2, ()): (some(2), some(1))})
        self.assertEqual(self.rows('u', *system), {(2, ()): (some(2), some(1))})
        self.assertEqual(tag_account(system, 'main', 't')[0], (some(3), some(2)))
        self.assertEqual(tag_account(system, 'main', 't')[2], (some(2, 3), some(2)))

    def test_out_of_a_slot(self):
        fork = ('fork', 'lib', 't', 'a', 1)
        released = (main(fork, ('release', 'a', 2), ('exit', 0), slots=('a',)), LIB)
        self.assertEqual(self.rows('t', *released), {(2, ((),)): (some(1), NONE)})
        pushed = (main(fork, ('fork', 'lib', 'u', 'a', 2), ('exit', 0), slots=('a',)), LIB)
        self.assertEqual(self.rows('t', *pushed), {(2, ((1, -1),)): (some(1), NONE), (2, ((1, 0),)): (some(1), NONE)})
        self.assertEqual(self.rows('u', *pushed), {})
        # In the slot itself a child is in no pool; when its parent ends it lies outside.
        held = (main(fork, ('exit', 1), slots=('a',)), LIB)
        self.assertEqual(self.rows('t', *held), {})
        self.assertEqual(tag_account(held, 'main', 't'), ((NONE, NONE), (some(2), NONE), (some(2), NONE)))

    def test_by_an_account(self):
        below = (main(('fork', 'work', 'm', '', 1), ('exit', 0)), WORK, LIB)
        self.assertEqual(self.rows('x', *below), {(1, ()): (some(2), some())})
        killed = (main(('fork', 'work', 'm', 'a', 1), ('kill', 'a', 2), ('exit', 0), slots=('a',)), WORK, LIB)
        self.assertEqual(self.rows('x', *killed), {(1, ((0, 0),)): (some(1), NONE), (2, ((0, 0),)): (some(1), NONE),
                                                   (2, ((0, 2),)): (some(1), NONE)})
        self.assertEqual(self.rows('x', main(('fork', 'loop', 'x', '', 1), ('exit', 0)), LOOP, LIB), {(1, ()): (FROM_1, FROM_1)})
        self.assertEqual(self.rows('m', main(('fork', 'loop', 'x', '', 1), ('exit', 0)), LOOP, LIB),
                         {(1, ()): (((), (2,), 1), ((), (2,), 1))})

    def test_taken(self):
        """A take can leave the one with the tag there if there are two; the last one is then gone or not."""
        system = (main(('fork', 'lib', 't', '', 1), ('fork', 'lib', 'u', '', 2), ('wait', (), 3, 4, ()), ('wait', (), 4, 4, ()),
                       ('exit', 0)), LIB)
        rows = self.rows('t', *system)
        self.assertEqual((rows[(2, ())], rows[(3, ())]), ((some(2), some(1)), (some(1), NONE)))
        self.assertNotIn((4, ()), rows)

    def test_tags_that_nothing_has(self):
        for system in list(SYSTEMS) + lively_systems(450, 20):
            for kind in system:
                self.assertEqual(tag_table(system, kind[0], 'nosuch'), ())
                self.assertEqual(tag_account(system, kind[0], 'nosuch'), ((NONE, NONE),) * 3)
        self.assertEqual(tag_table((LIB,), 'lib', 'x'), ())

    def test_endless(self):
        self.assertEqual(self.rows('m', LOOP, LIB), {(p, ()): (FROM_1, FROM_1) for p in (0, 1, 2)})
        self.assertEqual(tag_account((LOOP, LIB), 'loop', 'm')[0], (((), (2,), 1), ((), (2,), 1)))

    def test_form(self):
        for system in list(SYSTEMS) + lively_systems(451, 30):
            for kind in system:
                table = tag_table(system=system, kind=kind[0], tag='t')
                self.assertEqual([row[0] for row in table], sorted({row[0] for row in table}))
                whole = {row[0]: row[1:] for row in table_of(system, kind[0])}
                for row in table:
                    self.assertEqual((type(row), len(row)), (tuple, 3))
                    for at in (0, 1):
                        self.assertTrue(is_number_set(row[1 + at]) and not has_number(row[1 + at], 0))
                        self.assertTrue(all_within(row[1 + at], whole[row[0]][at]))
                    self.assertNotEqual(row[1:], (NONE, NONE))
                account = tag_account(system=system, kind=kind[0], tag='t')
                for pair, more in zip(account, account_of(system, kind[0])):
                    self.assertTrue(all_within(pair[0], more[0]) and all_within(pair[1], more[1]))
                own = cut_at(system, kind[0])
                self.assertTrue(same((table, account), (tag_table(own, kind[0], 't'), tag_account(own, kind[0], 't'))))

    def test_against_the_rules(self):
        met = 0
        for system in list(SYSTEMS) + random_systems(452, 20) + lively_systems(453, 50, places=8):
            for tag in tags_in(system)[:2]:
                tables, accounts = played_tables(system, 13, tag)
                for name in tables:
                    played = {}
                    for state, number, tagged, living in tables[name]:
                        if tagged and number <= 4:
                            played.setdefault((state, living), set()).add(number)
                    told = {}
                    for state, *sets in tag_table(system, name, tag):
                        for living in (False, True):
                            numbers = {n for n in range(5) if has_number(sets[living], n)}
                            if numbers:
                                told[(state, living)] = numbers
                    self.assertEqual(told, played)
                    met += len(told)
                    account = tag_account(system, name, tag)
                    for code in (0, 1, 2):
                        for late in (0, 1):
                            numbers = {n for n, m in accounts[name].get((code, late), ()) if m and n <= 4}
                            self.assertEqual({n for n in range(5) if has_number(account[code][late], n)}, numbers)
        self.assertGreater(met, 200)

    def test_against_all_trees(self):
        met = 0
        for system in list(SYSTEMS) + lively_systems(454, 40, places=8):
            found = Found(system, 9, 3000)
            for (state, living, tag), numbers in found.tagged_rows.items():
                rows = {row[0]: row[1:] for row in tag_table(system, system[0][0], tag)}
                self.assertTrue(all(has_number(rows[state][living], n) for n in numbers))
                met += 1
            for (code, late, tag), numbers in found.tagged_account.items():
                account = tag_account(system, system[0][0], tag)
                self.assertTrue(all(has_number(account[code][late], n) for n in numbers))
        self.assertGreater(met, 50)

    def test_refused(self):
        for call in (tag_table, tag_account):
            for wrong in odd_values() + [(), SYSTEM[:2]]:
                self.assertEqual(refusal(call, wrong, None, None), not_usable('system'))
            for wrong in odd_values() + ['nosuch', 0, ('main',)]:
                self.assertEqual(refusal(call, SYSTEM, wrong, None), not_usable('kind'))
            for wrong in odd_values() + ['', 'Tag', 'abcdefghi', 0, ('x',)]:
                self.assertEqual(refusal(call, SYSTEM, 'work', wrong), not_usable('tag'))
        self.assertIsNone(refusal(tag_table, BUSY, 'mid', 'abcdefgh'))


if __name__ == '__main__':
    unittest.main()

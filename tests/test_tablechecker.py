"""[34], [36]: which tables are closed."""

import random
import unittest

from forkyields.stateparts import is_state_of
from forkyields.systemchanges import with_instruction
from forkyields.tablechecker import lets_tables
from forkyields.tables import tables_of
from tests.closed import first_fault
from tests.samples import (
    BUSY, KEEPER, LIB, SYSTEM, SYSTEMS, WORK, lively_systems, not_usable, odd_values, random_systems, refusal, spoiled)

NONE = ((), (), 0)
ANY = ((), (0,), 1)
LOOP = ('loop', (), (('go', (1, 2)), ('fork', 'lib', 'm', '', 0), ('exit', 0)))


def paper(word, at):
    return ('InvalidPaper', {'word': word, 'at': at})


def changed(tables, i, k, row):
    """Tables with another row."""
    return tables[:i] + (tables[i][:k] + (row,) + tables[i][k + 1:],) + tables[i + 1:]


def all_states(kind):
    """All states of a kind by form, ascending."""
    states = [()]
    for slot in kind[1]:
        forks = [p for p, place in enumerate(kind[2]) if place[0] == 'fork' and place[3] == slot]
        states = [(*left, content) for left in states
                  for content in [()] + [(p, code) for p in forks for code in (-1, 0, 1, 2)]]
    return sorted((p, left) for p in range(len(kind[2])) for left in states)


class TableCheckerTest(unittest.TestCase):
    def agree(self, system, thing):
        """Whether the check says the same as the words of the document, number by number."""
        fault = first_fault(system, thing)
        self.assertEqual(refusal(lets_tables, system, thing), fault and paper(*fault), (system, thing))
        if fault is None:
            self.assertEqual(lets_tables(system=system, thing=thing), sum(len(table) for table in thing))
        return fault and fault[0]

    def test_own_tables(self):
        for system in list(SYSTEMS) + random_systems(360, 30) + lively_systems(361, 60):
            tables = tables_of(system)
            self.assertEqual(lets_tables(system, tables), sum(map(len, tables)))
            if sum(map(len, tables)) < 40:
                self.assertIsNone(self.agree(system, tables))

    def test_all_there_could_be(self):
        """Tables with each state by form, each with all numbers, are closed."""
        for system in list(SYSTEMS) + lively_systems(362, 20, places=5):
            tables = tuple(tuple((state, ANY, ANY) for state in all_states(kind)) for kind in system)
            self.assertEqual(lets_tables(system, tables), sum(map(len, tables)))
            for kind in system:
                self.assertTrue(all(is_state_of(kind, state) for state in all_states(kind)))

    def test_more_than_there_is(self):
        """Tables of a system that can do more are closed for one that can do less."""
        rng = random.Random(363)
        met = 0
        for system in lively_systems(364, 60, places=6):
            forked = {place[1] for kind in system for place in kind[2] if place[0] == 'fork'}
            kind = rng.choice(system)
            goes = [p for p, place in enumerate(kind[2]) if place[0] == 'go']
            if goes and forked:
                place = rng.choice(goes)
                more = tuple(range(len(kind[2])))
                tables = tables_of(with_instruction(system, kind[0], place, ('go', more)))
                self.assertEqual(lets_tables(system, tables), sum(map(len, tables)))
                met += tables != tables_of(system)
        self.assertGreater(met, 5)

    def test_shape(self):
        tables = tables_of(SYSTEM)
        for wrong in odd_values() + [(), tables[:2], tables + ((),), list(tables), (list(tables[0]), *tables[1:]),
                                     (*tables[:2], None), tables[0], 0, 'a']:
            if not isinstance(wrong, tuple) or len(wrong) != 3:
                self.assertEqual(refusal(lets_tables, SYSTEM, wrong), paper('shape', -1))
        self.assertEqual(refusal(lets_tables, SYSTEM, (*tables[:2], list(tables[2]))), paper('shape', -1))
        # A wrong shape of a later kind comes ahead of a wrong row of an earlier one.
        self.assertEqual(refusal(lets_tables, SYSTEM, ((None,), (), None)), paper('shape', -1))

    def test_each_word_at_each_place(self):
        for system in (SYSTEM, KEEPER, (LOOP, LIB), (WORK, LIB)) + tuple(lively_systems(365, 8, places=5)):
            tables = tables_of(system)
            for i, table in enumerate(tables):
                for k, row in enumerate(table):
                    for wrong in (None, row[:2], (*row, NONE), list(row), (row[0], row[1], list(row[2])),
                                  ((len(system[i][2]), row[0][1]), *row[1:]), ((row[0][0], (*row[0][1], ())), *row[1:]),
                                  (row[0], ((1, 0), (), 0), row[2]), (row[0], row[1], ((0,), (1,), 1)), ((True, ()), *row[1:])):
                        self.assertEqual(refusal(lets_tables, system, changed(tables, i, k, wrong)), paper('row', (i, k)))
                    if k:
                        twice = table[:k] + (table[k - 1],) + table[k:]
                        self.assertEqual(refusal(lets_tables, system, tables[:i] + (twice,) + tables[i + 1:]),
                                         paper('row', (i, k)))
                        swapped = table[:k - 1] + (row, table[k - 1]) + table[k + 1:]
                        self.assertEqual(refusal(lets_tables, system, tables[:i] + (swapped,) + tables[i + 1:]),
                                         paper('row', (i, k)))
                self.assertEqual(refusal(lets_tables, system, tables[:i] + ((),) + tables[i + 1:]), paper('first', i))
                self.assertEqual(refusal(lets_tables, system, changed(tables, i, 0, (table[0][0], NONE, ANY))),
                                 paper('first', i))
                self.assertEqual(refusal(lets_tables, system, changed(tables, i, 0, (table[0][0], ((1,), (), 0), NONE))),
                                 paper('first', i))

    def test_rule_at_each_row(self):
        """Without a row, or a number, a rule leads out of the rows that lead there; the first of them is told."""
        for system in (SYSTEM, KEEPER, (LOOP, LIB), (WORK, LIB)) + tuple(lively_systems(366, 12, places=5)):
            tables = tables_of(system)
            if sum(map(len, tables)) > 60:
                continue
            for i, table in enumerate(tables):
                for k, row in enumerate(table):
                    if k:
                        self.assertIn(self.agree(system, tables[:i] + (table[:k] + table[k + 1:],) + tables[i + 1:]),
                                      ('rule',))
                    for at in (1, 2):
                        for other in (NONE, ((0,), (), 0), ((), (1,), 1), ((), (1,), 2), ((2,), (), 0), ANY):
                            self.agree(system, changed(tables, i, k, row[:at] + (other,) + row[at + 1:]))

    def test_several_faults(self):
        tables = tables_of(SYSTEM)
        bad_row, empty = (tables[2][0][0], None, NONE), ()
        self.assertEqual(refusal(lets_tables, SYSTEM, (empty, tables[1], (bad_row,))), paper('row', (2, 0)))
        open_main = tables[0][:1]
        self.assertEqual(refusal(lets_tables, SYSTEM, (open_main, tables[1], empty)), paper('first', 2))
        self.assertEqual(refusal(lets_tables, SYSTEM, (open_main, tables[1], tables[2])), paper('rule', (0, 0)))
        open_work = tables[1][:1]
        self.assertEqual(refusal(lets_tables, SYSTEM, (open_main, open_work, tables[2])), paper('rule', (0, 0)))
        self.assertEqual(refusal(lets_tables, SYSTEM, (tables[0], open_work, tables[2])), paper('rule', (1, 0)))
        self.assertEqual(refusal(lets_tables, SYSTEM, (tables[0] + (None,), (None,), tables[2])), paper('row', (0, len(tables[0]))))
        self.assertEqual(refusal(lets_tables, SYSTEM, (tables[0], (None,), (None, None))), paper('row', (1, 0)))

    def test_accounts_of_later_tables(self):
        """More numbers in a later table make more rules for the kinds ahead."""
        tables = tables_of((WORK, LIB))
        more = (tables[0], (((0, ()), ((0, 1), (), 0), NONE),))
        self.assertEqual(refusal(lets_tables, (WORK, LIB), more), paper('rule', (0, 0)))
        more = (((0, ()), ((0,), (), 0), NONE), ((1, ()), ((1, 2), (), 0), ((0,), (), 0))), more[1]
        self.assertEqual(lets_tables((WORK, LIB), more), 3)

    def test_periods(self):
        loop = ('loop', (), (('fork', 'lib', 'm', '', 1), ('fork', 'lib', 'm', '', 0)))
        first, second = tables_of((loop, LIB))[0]
        self.assertEqual((first[1], second[1]), (((), (0,), 2), ((), (1,), 2)))
        lib = tables_of((LIB,))
        for evens, odds, right in ((((), (0,), 2), ((), (1,), 2), True), (ANY, ANY, True), (((), (0,), 2), ANY, False),
                                   (((), (0, 3), 6), ANY, False), (ANY, ((), (1,), 1), True), (ANY, ((), (2,), 1), False),
                                   (((0,), (2,), 2), ((), (1,), 2), False), (((0,), (2,), 1), ((1,), (3,), 1), True), (((0,), (2,), 1), ((1,), (4,), 1), False),
                                   (((), (0, 2, 5), 4), ((), (1, 3, 6), 4), False),
                                   (((0,), (2,), 1), ((1, 3), (4,), 1), False), (((0,), (2,), 1), ((), (1,), 1), True),
                                   (((0, 2), (3,), 1), ((), (1,), 1), False)):
            made = ((((0, ()), evens, first[2]), ((1, ()), odds, second[2])), *lib)
            fault = self.agree((loop, LIB), made)
            self.assertEqual(fault is None, right, (evens, odds))

    def test_great_numbers(self):
        far = tuple(range(0, 600, 7))
        kind = ('go', (), (('go', (1,)), ('exit', 0)))
        for second, fault in ((far, None), (far[:-1], 'rule'), (far + (600,), None), (tuple(range(601)), None)):
            made = ((((0, ()), (far, (), 0), NONE), ((1, ()), (second, (), 0), NONE)),)
            self.assertEqual(refusal(lets_tables, (kind,), made), fault and paper(fault, (0, 0)))
        for told, fault in ((((), (0,), 60), 'rule'), (((), (0, 1), 59), 'rule'), (((), tuple(range(0, 60, 3)), 60), 'row'),
                            (((), (0,), 5), 'rule'), (((), (0,), 3), None), (ANY, None), (((0,), (3,), 3), 'row'),
                            (((0, 1), (3,), 3), 'row'), (((1,), (0,), 3), None)):
            made = ((((0, ()), ((), (0,), 3), NONE), ((1, ()), told, NONE)),)
            self.assertEqual(refusal(lets_tables, (kind,), made), fault and paper(fault, (0, 1 if fault == 'row' else 0)), told)

    def test_sums_of_progressions(self):
        """A progression forked in beside another one: steps of 4 and 6 lead to each even number."""
        child = ('child', (), (('exit', 0),))
        kind = ('main', (), (('fork', 'child', 't', '', 1), ('exit', 1)))
        for told, right in ((((), (1, 3), 2), None), (((), (1,), 2), True), (((), (1,), 1), True), (ANY, True),
                            (((), (1, 5), 6), False), (((1,), (5,), 2), True), (((1,), (7,), 2), False),
                            (((), (5,), 2), False), (((1, 5, 7), (9,), 2), None), (((), (5,), 1), False)):
            made = ((((0, ()), ((), (0,), 4), NONE), ((1, ()), told, ANY)), (((0, ()), ((), (0,), 6), NONE),))
            fault = self.agree((kind, child), made)
            self.assertEqual(fault, 'row' if right is None else None if right else 'rule', told)

    def test_values_of_every_kind(self):
        words = set()
        for system in ((WORK, LIB), KEEPER[1:], (LOOP, LIB), (LIB,)):
            for wrong in spoiled(tables_of(system)):
                words.add(self.agree(system, wrong))
        self.assertEqual(words, {None, 'shape', 'row', 'first', 'rule'})

    def test_random_faults(self):
        rng = random.Random(367)
        words = {}
        sets = [NONE, ANY, ((0,), (), 0), ((1,), (), 0), ((0, 1), (), 0), ((), (1,), 1), ((), (0,), 2), ((1,), (4,), 3)]
        for system in [SYSTEM, KEEPER, (LOOP, LIB)] * 15 + lively_systems(368, 40, places=5):
            tables = tables_of(system)
            if sum(map(len, tables)) > 60:
                continue
            for _ in range(6):
                i = rng.randrange(len(tables))
                k = rng.randrange(len(tables[i]))
                row = list(tables[i][k])
                row[rng.choice((1, 2))] = rng.choice(sets)
                word = self.agree(system, changed(tables, i, k, tuple(row)))
                words[word] = words.get(word, 0) + 1
        self.assertTrue(words[None] > 5 and words['rule'] > 50 and words['first'] > 2, words)

    def test_refused(self):
        for wrong in odd_values() + [(), SYSTEM[:2]]:
            self.assertEqual(refusal(lets_tables, wrong, None), not_usable('system'))
        self.assertIsNotNone(refusal(lets_tables, BUSY, tables_of(SYSTEM)))


if __name__ == '__main__':
    unittest.main()

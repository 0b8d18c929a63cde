"""[46]: which tag tables are closed."""

import random
import unittest

from forkyields.tagchecker import lets_tag_tables
from tests.closed import first_fault
from tests.samples import LIB, SYSTEM, WORK, lively_systems, not_usable, odd_values, refusal, spoiled
from tests.test_tablechecker import all_states, changed, paper
from tests.twoforms import least_tables

NONE = ((), (), 0)
ANY = ((), (0,), 1)
FROM_1 = ((), (1,), 1)
LOOP = ('loop', (), (('go', (1, 2)), ('fork', 'lib', 'm', '', 0), ('exit', 0)))
SLOT = ('slot', ('a',), (('fork', 'lib', 't', 'a', 1), ('go', (2, 3)), ('release', 'a', 4), ('fork', 'lib', 'u', 'a', 4),
                         ('exit', 0)))
TAKER = ('taker', (), (('fork', 'lib', 't', '', 1), ('fork', 'lib', 'u', '', 2), ('wait', (), 2, 3, ()), ('exit', 0)))
WAITS = ('waits', ('a',), (('fork', 'work', 'm', 'a', 1), ('kill', 'a', 2), ('wait', (('a', 2, 2, 2),), 2, 3, ()), ('exit', 1)))


def some(*numbers):
    return (numbers, (), 0)


class TagCheckerTest(unittest.TestCase):
    def agree(self, system, tag, thing):
        fault = first_fault(system, thing, tag)
        self.assertEqual(refusal(lets_tag_tables, system, tag, thing), fault and paper(*fault), (system, tag, thing))
        if fault is None:
            self.assertEqual(lets_tag_tables(system=system, tag=tag, thing=thing), sum(map(len, thing)))
        return fault and fault[0]

    def test_own_tables(self):
        for system in [SYSTEM, (SLOT, LIB), (TAKER, LIB), (WAITS, WORK, LIB), (LOOP, LIB)] + lively_systems(460, 40):
            for tag in ('t', 'u', 'x', 'm', 'nosuch'):
                tables = least_tables(system, tag)
                self.assertEqual(lets_tag_tables(system, tag, tables), sum(map(len, tables)))
                if sum(map(len, tables)) < 30:
                    self.assertIsNone(self.agree(system, tag, tables))

    def test_by_hand(self):
        lib = (((0, ()), some(0), NONE, NONE, NONE),)
        work = ((0, ()), some(0), NONE, NONE, NONE), ((1, ()), some(1), some(0), some(1), NONE)
        self.assertEqual(lets_tag_tables((WORK, LIB), 'x', (work, lib)), 3)
        self.assertEqual(least_tables((WORK, LIB), 'x'), (work, lib))

    def test_all_there_could_be(self):
        for system in [SYSTEM, (WAITS, WORK, LIB)] + lively_systems(461, 15, places=5):
            tables = tuple(tuple((state, ANY, ANY, FROM_1, FROM_1) for state in all_states(kind)) for kind in system)
            self.assertEqual(lets_tag_tables(system, 't', tables), sum(map(len, tables)))

    def test_more_numbers(self):
        """The tables for a tag hold for another one if they tell of more numbers with the tag."""
        tables = least_tables((WORK, LIB), 'x')
        self.assertEqual(lets_tag_tables((WORK, LIB), 'y', tables), 3)
        more = changed(tables, 0, 1, ((1, ()), some(1), some(0), FROM_1, ((3,), (5,), 1)))
        self.assertEqual(lets_tag_tables((WORK, LIB), 'x', more), 3)

    def test_with_the_tag_to_with_the_tag(self):
        """The first further rule: [33] leads from numbers with the tag to such."""
        kind = ('kind', (), (('fork', 'lib', 't', '', 1), ('go', (2,)), ('exit', 0)))
        tables = least_tables((kind, LIB), 't')
        for k in (1, 2):
            fewer = changed(tables, 0, k, (*tables[0][k][:3], NONE, NONE))
            self.assertEqual(refusal(lets_tag_tables, (kind, LIB), 't', fewer), paper('rule', (0, k - 1)))

    def test_a_take_of_the_tag(self):
        """From n with the tag to n - 1 without it, and with it if n is at least 2."""
        kind = ('kind', (), (('go', (1, 2)), ('wait', (), 2, 2, ()), ('exit', 0)))
        begin = ((0, ()), some(0), NONE, NONE, NONE)
        for ws, without, with_tag, right in ((some(1), some(0), NONE, True), (some(2), some(0, 1), some(1), True),
                                             (some(2), some(0, 1), NONE, False), (some(2), some(0), some(1), False),
                                             (some(1), NONE, NONE, False), (some(1, 3), some(0, 2), some(2), True),
                                             (FROM_1, ANY, FROM_1, True), (FROM_1, ANY, ((), (2,), 1), False),
                                             (FROM_1, FROM_1, FROM_1, False)):
            made = ((begin, ((1, ()), some(0), NONE, ws, NONE), ((2, ()), without, NONE, with_tag, NONE)),)
            self.assertEqual(self.agree((kind,), 't', made) is None, right, (ws, without, with_tag))

    def test_the_account_with_the_tag(self):
        """The second further rule: what an account brings with the tag is marked, in the pool and out of a slot."""
        pool = ('pool', (), (('fork', 'work', 'm', '', 1), ('exit', 0)))
        for system, k in (((pool, WORK, LIB), 1), ((WAITS, WORK, LIB), 2), ((WAITS, WORK, LIB), 4)):
            tables = least_tables(system, 'x')
            self.assertNotEqual(tables[0][k][3:], (NONE, NONE))
            fewer = changed(tables, 0, k, (*tables[0][k][:3], NONE, NONE))
            self.assertEqual(self.agree(system, 'x', fewer), 'rule')
        # An ended content with the tag brings it when its parent ends, by the settled and unsettled numbers.
        held = ('held', ('a',), (('fork', 'lib', 't', 'a', 1), ('exit', 1)))
        system = (('pool', (), (('fork', 'held', 'm', '', 1), ('exit', 0))), held, LIB)
        tables = least_tables(system, 't')
        self.assertEqual(tables[0][1][3], some(2))
        self.assertEqual(self.agree(system, 't', changed(tables, 0, 1, (*tables[0][1][:3], NONE, NONE))), 'rule')

    def test_a_child_with_the_tag(self):
        """The third further rule: forked into the pool with code 0 or 1, released, pushed out of the slot."""
        for system, tag, k in (((WORK, LIB), 'x', 1), ((SLOT, LIB), 't', -1), ((SLOT, LIB), 't', -2), ((SLOT, LIB), 't', -3)):
            tables = least_tables(system, tag)
            row = tables[0][k]
            self.assertNotEqual(row[3:], (NONE, NONE))
            k = tables[0].index(row)
            self.assertEqual(self.agree(system, tag, changed(tables, 0, k, (*row[:3], NONE, NONE))), 'rule')

    def test_each_word(self):
        for system in ((SLOT, LIB), SYSTEM, (WAITS, WORK, LIB)):
            tables = least_tables(system, 't')
            for wrong in odd_values() + [(), tables[:1], tables + ((),), list(tables), (*tables[:-1], None)]:
                if not isinstance(wrong, tuple) or len(wrong) != len(system) or wrong[-1] is None:
                    self.assertEqual(refusal(lets_tag_tables, system, 't', wrong), paper('shape', -1))
            for i, table in enumerate(tables):
                for k, row in enumerate(table):
                    for wrong in (None, row[:3], row[:4], (*row, NONE), list(row), (*row[:3], some(0), NONE),
                                  (*row[:3], NONE, ANY), (*row[:3], NONE, some(0, 1)), (*row[:4], ((2, 1), (), 0)),
                                  (*row[:4], None), ((len(system[i][2]), row[0][1]), *row[1:])):
                        self.assertEqual(refusal(lets_tag_tables, system, 't', changed(tables, i, k, wrong)),
                                         paper('row', (i, k)))
                self.assertEqual(refusal(lets_tag_tables, system, 't', tables[:i] + (table[1:],) + tables[i + 1:]),
                                 paper('first', i))
                twice = tables[:i] + (table[:1] + table,) + tables[i + 1:]
                self.assertEqual(refusal(lets_tag_tables, system, 't', twice), paper('row', (i, 1)))

    def test_several_faults(self):
        tables = least_tables(SYSTEM, 'x')
        open_main = tables[0][:1]
        bad = ((0, ()), some(0), NONE, some(0), NONE)
        self.assertEqual(refusal(lets_tag_tables, SYSTEM, 'x', ((), tables[1], (bad,))), paper('row', (2, 0)))
        self.assertEqual(refusal(lets_tag_tables, SYSTEM, 'x', (open_main, tables[1], ())), paper('first', 2))
        self.assertEqual(refusal(lets_tag_tables, SYSTEM, 'x', (open_main, tables[1], None)), paper('shape', -1))
        self.assertEqual(refusal(lets_tag_tables, SYSTEM, 'x', (open_main, tables[1][:1], tables[2])), paper('rule', (0, 0)))
        unmarked = (tables[1][0], (*tables[1][1][:3], NONE, NONE))
        self.assertEqual(refusal(lets_tag_tables, SYSTEM, 'x', (tables[0], unmarked, tables[2])), paper('rule', (1, 0)))

    def test_values_of_every_kind(self):
        words = set()
        for system, tag in (((WORK, LIB), 'x'), ((LOOP, LIB), 'm')):
            for wrong in spoiled(least_tables(system, tag)):
                words.add(self.agree(system, tag, wrong))
        self.assertEqual(words, {None, 'shape', 'row', 'first', 'rule'})

    def test_random_changes(self):
        rng = random.Random(463)
        words = {}
        sets = [NONE, some(1), some(2), some(1, 2), FROM_1, ((), (2,), 1), ((), (1,), 2)]
        made = [(SLOT, LIB), (TAKER, LIB), (WAITS, WORK, LIB), (LOOP, LIB), SYSTEM] * 8 + lively_systems(464, 40, places=6)
        for system in made:
            tag = rng.choice(('t', 'u', 'x'))
            tables = least_tables(system, tag)
            if sum(map(len, tables)) > 40:
                continue
            for _ in range(5):
                i = rng.randrange(len(tables))
                k = rng.randrange(len(tables[i]))
                row = list(tables[i][k])
                row[rng.choice((1, 2, 3, 3, 4, 4))] = rng.choice(sets)
                word = self.agree(system, tag, changed(tables, i, k, tuple(row)))
                words[word] = words.get(word, 0) + 1
        self.assertTrue(words[None] > 20 and words['rule'] > 50, words)

    def test_refused(self):
        for wrong in odd_values() + [(), SYSTEM[:2]]:
            self.assertEqual(refusal(lets_tag_tables, wrong, None, None), not_usable('system'))
        for wrong in odd_values() + ['', 'Tag', 'abcdefghi', 0, ('x',)]:
            self.assertEqual(refusal(lets_tag_tables, SYSTEM, wrong, None), not_usable('tag'))


if __name__ == '__main__':
    unittest.main()

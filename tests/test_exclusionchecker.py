"""[60]: exclusion papers and their check."""

import random
import unittest

from forkyields.exclusionchecker import lets_exclusions
from forkyields.exclusions import exclusion_paper, greatest_others, least_exclusions
from forkyields.systemchanges import excluded
from forkyields.systemparts import tags_in
from tests.closed import first_fault
from tests.model import random_run
from tests.samples import (
    LIB, MAIN, SYSTEM, SYSTEMS, WORK, lively_systems, not_usable, odd_values, random_systems, refusal, spoiled)
from tests.test_exclusions import EITHER, SHORT, TWO, all_of, few, subsets
from tests.test_tablechecker import all_states, paper
from tests.twoforms import comers_by, least_tables, plays, shows

NONE = ((), (), 0)
ANY = ((), (0,), 1)
FROM_1 = ((), (1,), 1)
# A small system with one exclusion, which is needed.
KIND = ('kind', ('a',), (('fork', 'lib', 't', 'a', 1), ('poll', (('a', 2, 2, 2),), 2, 2, 2, ()), ('exit', 0)))
SMALL = (KIND, LIB)


def is_set_of(system, thing):
    right = all_of(system)
    return (type(thing) is tuple and all(type(part) is tuple and repr(part) in [repr(known) for known in right] for part in thing)
            and list(thing) == sorted(set(thing)))


def foreign_in(system, tables, tag):
    """Whether tables of a kind that comes by them show a take by a wait that is not meant for the tag."""
    comers = comers_by(system, tables)
    return any(shows(kind, row, row[0][0], tag) for kind, rows in zip(system, tables) if kind[0] in comers for row in rows
               if kind[2][row[0][0]][0] in ('wait', 'poll') and tag not in kind[2][row[0][0]][-1])


def least_fits(system, thing):
    """Whether any value has closed tag tables for each tag that show no foreign take."""
    if type(thing) is not tuple or not all(type(part) is tuple and len(part) == 2 for part in thing):
        return False
    if [repr(part[0]) for part in thing] != [repr(tag) for tag in tags_in(system)]:
        return False
    return not any(first_fault(system, tables, tag) or foreign_in(system, tables, tag) for tag, tables in thing)


def other_fits(system, thing):
    """Whether any value is a run with a foreign take."""
    if plays(system, thing) is None:
        return False
    for k, (process, word, child) in enumerate(thing):
        if word == 'take':
            model = plays(system, thing[:k])
            if model.all[child].tag not in model.instruction(model.all[process])[-1]:
                return True
    return False


def fault_of(system, thing):
    """The first fault of any value as an exclusion paper; None if it is one."""
    if type(thing) is not tuple or len(thing) != 2 or not all(
            type(rows) is tuple and all(type(row) is tuple and len(row) == 2 for row in rows) for rows in thing):
        return ('shape', -1)
    for i in (0, 1):
        for k, (one, _) in enumerate(thing[i]):
            before = [row[0] for row in thing[i][:k]]
            if not is_set_of(system, one) or (before and not before[-1] < one) or any(
                    set(known) <= set(one) or set(one) <= set(known) for known in before):
                return ('set', (i, k))
    for i, right in ((0, least_fits), (1, other_fits)):
        for k, (one, told) in enumerate(thing[i]):
            if not right(excluded(system, *one), told):
                return ('paper', (i, k))
    for part in subsets(all_of(system)):
        if not any(set(one) <= set(part) for one, _ in thing[0]) and not any(set(part) <= set(one) for one, _ in thing[1]):
            return ('left', part)
    return None


class ExclusionCheckerTest(unittest.TestCase):
    def agree(self, system, thing):
        fault = fault_of(system, thing)
        self.assertEqual(refusal(lets_exclusions, system, thing), fault and paper(*fault), (system, thing))
        if fault is None:
            self.assertIs(lets_exclusions(system=system, thing=thing), thing[0] != ())
        return fault and fault[0]

    def test_own_papers(self):
        sizes = {}
        for system in list(SYSTEMS) + [SHORT, TWO, EITHER, SMALL] + few(lively_systems(600, 90, places=7) + random_systems(601, 30)):
            thing = exclusion_paper(system=system)
            self.assertEqual((type(thing), len(thing)), (tuple, 2))
            self.assertEqual(tuple(one for one, _ in thing[0]), least_exclusions(system))
            self.assertEqual(tuple(one for one, _ in thing[1]), greatest_others(system))
            self.assertIs(lets_exclusions(system, thing), thing[0] != ())
            rows = max([sum(map(len, tables)) for _, told in thing[0] for _, tables in told] + [0])
            if rows < 25:
                self.assertIsNone(self.agree(system, thing))
            sizes[len(all_of(system))] = sizes.get(len(all_of(system)), 0) + 1
        self.assertTrue(all(sizes.get(many, 0) > 0 for many in range(6)), sizes)

    def test_sets(self):
        """A set more, less, twice, in another order; one that includes another one, or lies in it."""
        words = {}
        for system in (SHORT, TWO, EITHER, SMALL, SYSTEM):
            least, others = exclusion_paper(system)
            whole = tuple(all_of(system))
            spare = [(part, told) for part in subsets(whole) for _, told in (least + others)[:1]]
            calm = tuple((tag, least_tables(excluded(system, *whole), tag)) for tag in tags_in(system))
            for i, rows in enumerate((least, others)):
                made = [rows[:k] + rows[k + 1:] for k in range(len(rows))] + [rows + rows, rows[::-1], rows + tuple(spare[-1:]), rows[:1] + rows]
                made += [tuple(sorted(rows + ((part, told),), key=repr)) for part, told in spare]
                made += [((whole, calm),), ((whole, calm), *rows), (*rows, (whole, calm)), (((), calm),), ()]
                made += [((one[::-1], told),) for one, told in rows] + [(([*one], told),) for one, told in rows]
                made += [(((*one, one), told),) for one, told in rows] + [(((*one, ('nosuch', 0, 'a')), told),) for one, told in rows]
                for other in made:
                    word = self.agree(system, (other, others) if i == 0 else (least, other))
                    words[word] = words.get(word, 0) + 1
        self.assertTrue(min(words.get(word, 0) for word in (None, 'set', 'paper', 'left')) > 3, words)

    def test_left(self):
        """The first set, by size, then ascending, that is on no side."""
        self.assertEqual(refusal(lets_exclusions, TWO, ((), ())), paper('left', ()))
        least, others = exclusion_paper(TWO)
        self.assertEqual(refusal(lets_exclusions, TWO, (least, ())), paper('left', ()))
        self.assertEqual(refusal(lets_exclusions, TWO, ((), others)), paper('left', (('two', 1, 'a'),)))
        self.assertEqual(refusal(lets_exclusions, TWO, (least[:1], others)), paper('left', (('two', 3, 'b'),)))
        self.assertEqual(refusal(lets_exclusions, TWO, (least[1:], others)), paper('left', (('two', 1, 'a'),)))
        less = (((('two', 3, 'a'),), others[0][1]),)
        self.assertEqual(self.agree(TWO, (least, less)), 'left')
        self.assertEqual(refusal(lets_exclusions, TWO, (least, less)), paper('left', (('two', 1, 'b'),)))

    def test_tables(self):
        """Larger closed tables do as long as they show no foreign take; tables of other systems and tags do not."""
        (one, told), = exclusion_paper(SMALL)[0]
        others = exclusion_paper(SMALL)[1]
        left = excluded(SMALL, *one)
        all_tables = tuple(tuple((state, ANY, ANY, FROM_1, FROM_1) for state in all_states(kind)) for kind in left)
        quiet = tuple(tuple((state, ANY, ANY, NONE, NONE) for state in all_states(kind)) for kind in left)
        self.assertEqual(self.agree(SMALL, (((one, (('t', all_tables),)),), others)), 'paper')
        self.assertEqual(self.agree(SMALL, (((one, (('t', quiet),)),), others)), 'paper')
        aside = (*KIND[:2], KIND[2] + (('go', (3,)),))
        (one, told), = exclusion_paper((aside, LIB))[0]
        others = exclusion_paper((aside, LIB))[1]
        more = (told[0][1][0] + (((3, ((),)), ANY, ANY, FROM_1, FROM_1),), told[0][1][1])
        self.assertIsNone(self.agree((aside, LIB), (((one, (('t', more),)),), others)))
        # What is closed for the whole system is so without the row, too, and here it shows no take without it.
        self.assertIsNone(self.agree((aside, LIB), (((one, (('t', least_tables((aside, LIB), 't')),)),), others)))
        for wrong in ((), told + told, (('u', told[0][1]),), (('t', told[0][1], 0),), [told[0]], (('t', None),),
                      (('t', told[0][1][:1]),), (('t', (told[0][1][0][:1], told[0][1][1])),), (list(told[0]),), None, 0, 't',
                      ('t', told[0][1])):
            word = self.agree((aside, LIB), (((one, wrong),), others))
            self.assertEqual(word, 'paper', wrong)

    def test_kinds_that_come_by_tables(self):
        """A foreign take of a kind that does not come by the tables does not matter; with a row more it comes."""
        front = ('front', (), (('exit', 0), ('fork', 'kind', 'u', '', 0)))
        system = (front, KIND, LIB)
        self.assertEqual([least_exclusions(system), greatest_others(system)], [((),), ()])
        (one, told), = exclusion_paper(system)[0]
        self.assertEqual(one, ())
        tables = dict(told)['t']
        self.assertIsNone(self.agree(system, ((((), told),), ())))
        row = ((1, ()), NONE, NONE, NONE, NONE)
        for made, word in ((row, None), (((1, ()), ANY, NONE, NONE, NONE), 'paper')):
            changed_tables = ((*tables[0], made), *tables[1:])
            self.assertEqual(self.agree(system, ((((), (('t', changed_tables), *told[1:])),), ())), word)

    def test_runs(self):
        least, ((one, run),) = exclusion_paper(SMALL)
        self.assertEqual(one, ())
        for other in (run[:-1], run + run[-1:], (), list(run), None, run[1:], (run,), run + ((0, 'exit', -1),)):
            word = self.agree(SMALL, (least, ((one, other),)))
            self.assertEqual(word, None if other == run + ((0, 'exit', -1),) else 'paper')
        # It is a run of the excluded system: a take by an excluded row is none.
        whole = tuple(all_of(SMALL))
        self.assertEqual(self.agree(SMALL, ((), ((whole, run),))), 'paper')
        rng = random.Random(602)
        words = {}
        for system in (TWO, EITHER, SYSTEM) * 6:
            least, others = exclusion_paper(system)
            drawn = random_run(rng, excluded(system, *others[0][0]), 12)
            word = self.agree(system, (least, ((others[0][0], drawn),) + others[1:]))
            words[word] = words.get(word, 0) + 1
        self.assertTrue(min(words.values()) > 2 and len(words) == 2, words)

    def test_several_faults(self):
        least, others = exclusion_paper(TWO)
        wrong_set, wrong_paper = (('two', 9, 'a'),), ()
        for thing, word, at in (((((wrong_set, ()),), None), 'shape', -1), ((((wrong_set,),), others), 'shape', -1),
                                ((((least[0][0], None),), ((wrong_set, ()),)), 'set', (1, 0)),
                                (((least[0], (wrong_set, ())), ((wrong_set, ()),)), 'set', (0, 1)),
                                ((((least[0][0], wrong_paper),), ((others[0][0], wrong_paper),)), 'paper', (0, 0)),
                                ((least, ((others[0][0], wrong_paper),)), 'paper', (1, 0)),
                                ((((least[0][0], None), least[1]), ()), 'paper', (0, 0)), ((least, others, ()), 'shape', -1),
                                ((least,), 'shape', -1), ((list(least), others), 'shape', -1), (([*least], [*others]), 'shape', -1),
                                ([least, others], 'shape', -1), ((((least[0][0], least[0][1], 0),), others), 'shape', -1),
                                ((([*least[0]],), others), 'shape', -1)):
            self.assertEqual(refusal(lets_exclusions, TWO, thing), paper(word, at), thing)

    def test_values_of_every_kind(self):
        words = set()
        thing = exclusion_paper(SMALL)
        for wrong in spoiled(thing):
            words.add(self.agree(SMALL, wrong))
        for wrong in odd_values():
            for other in (wrong, (wrong, ()), ((), wrong), (((wrong, ()),), ()), ((((), wrong),), ()), ((), (((), wrong),))):
                words.add(self.agree(SMALL, other))
        self.assertEqual(words, {None, 'shape', 'set', 'paper', 'left'})

    def test_refused(self):
        for wrong in odd_values() + [(), SYSTEM[:2]]:
            self.assertEqual(refusal(exclusion_paper, wrong), not_usable('system'))
            self.assertEqual(refusal(lets_exclusions, wrong, None), not_usable('system'))
        self.assertIs(lets_exclusions((MAIN, WORK, LIB), exclusion_paper(SYSTEM)), False)


if __name__ == '__main__':
    unittest.main()

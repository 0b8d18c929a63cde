"""[58], [59]: exclusions, which of them leave no foreign take, and which leave processes stuck."""

import itertools
import random
import unittest

from forkyields.exclusions import exclusions_of, greatest_others, least_exclusions, leaves_calm, newly_stuck
from forkyields.resting import stuck_states
from forkyields.runs import is_run
from forkyields.systemchanges import excluded
from forkyields.takers import foreign_takes
from tests.brute import Found
from tests.model import random_run
from tests.restplay import played_rest
from tests.samples import (
    BUSY, KEEPER, LIB, MAIN, SYSTEM, SYSTEMS, WORK, Odd, lively_systems, not_usable, odd_values, random_systems, refusal, same,
    sleepy_systems)
from tests.test_takers import played_takes

SHORT = (MAIN, ('work', (), (('exit', 0),)), LIB)
ROW = ('a', 2, 2, 2)
# Its wait takes s out of its slot too early, its poll t out of the other one: each needs its exclusion.
TWO = (('two', ('a', 'b'), (('fork', 'lib', 's', 'a', 1), ('wait', (ROW, ('b', 2, 2, 2)), 2, 2, ('s',)),
                            ('fork', 'lib', 't', 'b', 3), ('poll', (('a', 4, 4, 4), ('b', 4, 4, 4)), 4, 4, 4, ('s',)), ('exit', 0))), LIB)
# Either the one or the other exclusion lets nothing foreign happen: behind the first wait only one code leads on.
EITHER = (('either', ('a',), (('fork', 'lib', 's', 'a', 1), ('wait', (('a', 2, 5, 5),), 2, 5, ('s',)), ('fork', 'lib', 't', 'a', 3),
                              ('poll', (('a', 4, 4, 4),), 4, 4, 4, ('s',)), ('exit', 0), ('exit', 1))), LIB)


def fork_tags(system):
    return sorted({place[2] for kind in system for place in kind[2] if place[0] == 'fork'})


def all_of(system):
    """All exclusions, by the words of [8]."""
    return sorted((kind[0], p, row[0]) for kind in system for p, place in enumerate(kind[2])
                  if place[0] in ('wait', 'poll') and place[2] != -1 for row in place[1])


def subsets(things):
    return [part for size in range(len(things) + 1) for part in itertools.combinations(things, size)]


def is_calm_by_rules(system):
    """Whether no foreign take is possible, by the rules that are played number by number."""
    for tag in fork_tags(system):
        for name, place in played_takes(system, tag):
            kind = [known for known in system if known[0] == name][0]
            if tag not in kind[2][place][-1]:
                return False
    return True


def few(systems, most=5):
    return [system for system in systems if len(all_of(system)) <= most]


class ExclusionsTest(unittest.TestCase):
    def test_examples(self):
        self.assertEqual([exclusions_of(SYSTEM), least_exclusions(SYSTEM), greatest_others(SYSTEM)],
                         [(('main', 2, 'h'),), (), ((('main', 2, 'h'),),)])
        self.assertEqual([least_exclusions(SHORT), greatest_others(SHORT)], [((('main', 2, 'h'),),), ((),)])

    def test_exclusions_of(self):
        met = 0
        for system in list(SYSTEMS) + [TWO, EITHER] + random_systems(580, 40) + lively_systems(581, 60):
            right = all_of(system)
            self.assertTrue(same(exclusions_of(system=system), tuple(right)))
            met += len(right)
        self.assertGreater(met, 60)
        self.assertEqual(exclusions_of((LIB,)), ())
        # Also of kinds that do not come; not of waits and polls without a pool.
        self.assertEqual(exclusions_of((('front', (), (('exit', 0),)), *SYSTEM)), (('main', 2, 'h'),))
        self.assertEqual(exclusions_of(TWO), (('two', 1, 'a'), ('two', 1, 'b'), ('two', 3, 'a'), ('two', 3, 'b')))
        self.assertEqual(exclusions_of(BUSY), (('mid', 6, 'a'), ('top', 3, 'a'), ('top', 3, 'b')))

    def test_leaves_calm(self):
        met = {True: 0, False: 0}
        for system in [SYSTEM, SHORT, TWO, EITHER, KEEPER] + few(lively_systems(582, 60, places=6)):
            for part in subsets(all_of(system)):
                right = is_calm_by_rules(excluded(system, *part))
                self.assertIs(leaves_calm(system=system, exclusions=part), right)
                met[right and bool(part)] += 1
        self.assertTrue(min(met.values()) > 10, met)

    def test_calm_systems_in_all_trees(self):
        for system in [SHORT, TWO, EITHER] + few(lively_systems(583, 30, places=6)):
            for part in subsets(all_of(system)):
                if leaves_calm(system, part):
                    left = excluded(system, *part)
                    for name, place, tag in Found(left, 7, 500).takes:
                        kind = [known for known in left if known[0] == name][0]
                        self.assertIn(tag, kind[2][place][-1])

    def test_newly_stuck(self):
        met = 0
        for system in [SYSTEM, SHORT, TWO, EITHER] + few(sleepy_systems(584, 100, places=5)):
            before = played_rest(system, 6)[0]
            for part in subsets(all_of(system)):
                after = played_rest(excluded(system, *part), 6)[0]
                right = sorted({(name, counted[0]) for name in after for counted in after[name]}
                               - {(name, counted[0]) for name in before for counted in before[name]})
                told = newly_stuck(system=system, exclusions=part)
                self.assertTrue(same(told, tuple(right)))
                met += len(told)
        self.assertGreater(met, 10)

    def test_newly_stuck_by_hand(self):
        self.assertEqual(newly_stuck(SHORT, ()), ())
        kind = ('kind', ('a',), (('fork', 'lib', 't', 'a', 1), ('wait', (('a', 2, 2, 2),), 2, 2, ()), ('exit', 0)))
        self.assertEqual(stuck_states((kind, LIB), 'kind'), ())
        self.assertEqual(newly_stuck((kind, LIB), (('kind', 1, 'a'),)), (('kind', (1, ((0, 0),))),))
        # Kinds that do not come are looked at, too; what was stuck before is not new.
        front = ('front', ('b',), (('fork', 'lib', 'u', 'b', 1), ('wait', (), 1, 1, ())))
        self.assertEqual(newly_stuck((front, kind, LIB), (('kind', 1, 'a'),)), (('kind', (1, ((0, 0),))),))
        self.assertEqual(newly_stuck((front, kind, LIB), ()), ())

    def test_bounds(self):
        """All least sets that leave no foreign take, all greatest ones that leave one, by all sets of exclusions."""
        sizes = {}
        for system in [SYSTEM, SHORT, TWO, EITHER, (WORK, LIB)] + few(lively_systems(585, 110, places=7)):
            parts = [set(part) for part in subsets(all_of(system))]
            calm = [part for part in parts if is_calm_by_rules(excluded(system, *sorted(part)))]
            others = [part for part in parts if part not in calm]
            least = sorted(tuple(sorted(part)) for part in calm if not any(other < part for other in calm))
            greatest = sorted(tuple(sorted(part)) for part in others if not any(other > part for other in others))
            self.assertTrue(same(least_exclusions(system=system), tuple(least)))
            self.assertTrue(same(greatest_others(system=system), tuple(greatest)))
            for part in parts:
                # More exclusions leave no more takes: each set is on one side alone.
                below = any(part >= set(known) for known in least)
                above = any(part <= set(known) for known in greatest)
                self.assertTrue(below != above)
            at = len(all_of(system))
            sizes[at] = sizes.get(at, 0) + 1
        self.assertTrue(all(sizes.get(many, 0) > 0 for many in range(6)), sizes)

    def test_bounds_by_hand(self):
        """TWO: the poll must leave out b, or is not come to: without a the wait ahead of it waits for ever."""
        self.assertEqual(least_exclusions(EITHER), ((('either', 1, 'a'),), (('either', 3, 'a'),)))
        self.assertEqual(greatest_others(EITHER), ((),))
        self.assertEqual(least_exclusions(TWO), ((('two', 1, 'a'),), (('two', 3, 'b'),)))
        self.assertEqual(greatest_others(TWO), ((('two', 1, 'b'), ('two', 3, 'a')),))
        self.assertEqual([least_exclusions((LIB,)), greatest_others((LIB,))], [((),), ()])
        self.assertEqual([least_exclusions((WORK, LIB)), greatest_others((WORK, LIB))], [((),), ()])

    def test_no_new_runs(self):
        """[9] (F8) With exclusions no run is possible that was not possible before."""
        rng = random.Random(586)
        met = 0
        for system in [SYSTEM, TWO, BUSY] * 5 + lively_systems(587, 60):
            part = [exclusion for exclusion in all_of(system) if rng.random() < 0.6]
            left = excluded(system, *part)
            self.assertTrue(is_run(system, random_run(rng, left, 60)))
            self.assertTrue(set(foreign_takes(left)) <= set(foreign_takes(system)))
            met += bool(part)
        self.assertGreater(met, 25)

    def test_no_set_of_exclusions(self):
        one, two = ('two', 1, 'a'), ('two', 3, 'b')
        wrongs = odd_values() + [
            (one, one), (two, one), [one], (one, two, two), (list(one),), (('two', 1),), (('two', 1, 'a', 'a'),), (('main', 2, 'h'),),
            (('two', 1, 'c'),), (('two', 0, 'a'),), (('two', 2, 'a'),), (('two', 5, 'a'),), (('two', True, 'a'),), (('two', 1, ''),),
            (('lib', 0, 'a'),), (one, None), (None, one), (Odd(),), (one, ('two', 10 ** 59, 'a')), one, 'a', (('two', -4, 'a'),)]
        for call in (leaves_calm, newly_stuck):
            for wrong in wrongs:
                self.assertEqual(refusal(call, TWO, wrong), not_usable('exclusions'), wrong)
            for right in ((), (one,), (one, two), (one, ('two', 1, 'b'), ('two', 3, 'a'), two)):
                self.assertIsNone(refusal(call, TWO, right))
            # A wait without a pool has no exclusions.
            self.assertEqual(refusal(call, SYSTEM, (('main', 4, 'h'),)), not_usable('exclusions'))
            for wrong in odd_values() + [(), SYSTEM[:2]]:
                self.assertEqual(refusal(call, wrong, None), not_usable('system'))
        for call in (exclusions_of, least_exclusions, greatest_others):
            for wrong in odd_values() + [(), SYSTEM[:2]]:
                self.assertEqual(refusal(call, wrong), not_usable('system'))


if __name__ == '__main__':
    unittest.main()

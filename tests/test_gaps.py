"""[55]: waits that find nothing, and places to which no process comes."""

import random
import unittest

from forkyields.gaps import dead_places, none_places
from forkyields.systemparts import cut_at
from forkyields.takers import comes
from tests.brute import CODE, KIND, PLACE, POOL, SLOTS, TAG, all_trees
from tests.model import Model, random_run
from tests.ruleplay import played_tables
from tests.samples import (
    BUSY, KEEPER, LIB, SYSTEM, SYSTEMS, WORK, lively_systems, not_usable, odd_values, random_systems, refusal, same,
    sleepy_systems)


def looked_empty(kind, place, contents):
    """Whether place is a wait or poll without a pool, and nobody is in the slots of its rows."""
    instruction = kind[2][place]
    if instruction[0] not in ('wait', 'poll') or instruction[2] != -1:
        return False
    held = dict(zip(kind[1], contents))
    return not any(held[row[0]] for row in instruction[1])


def all_places(system):
    return {(kind[0], place) for kind in system for place in range(len(kind[2]))}


def procs_in(tree):
    for proc in tree:
        yield proc
        yield from procs_in([child for child in [*proc[SLOTS], *proc[POOL]] if child])


class GapsTest(unittest.TestCase):
    def test_example(self):
        self.assertEqual([none_places(SYSTEM), dead_places(SYSTEM)], [(), (('main', 5),)])

    def test_against_the_rules(self):
        met = {'none': 0, 'dead': 0}
        for system in list(SYSTEMS) + random_systems(550, 40) + lively_systems(551, 60) + sleepy_systems(552, 60):
            tables = played_tables(system, 10)[0]
            empty = {(kind[0], place) for kind in system for (place, contents), _, _, _ in tables[kind[0]]
                     if looked_empty(kind, place, contents)}
            self.assertTrue(same(none_places(system=system), tuple(sorted(empty))))
            there = {(kind[0], counted[0][0]) for kind in system if comes(system, kind[0]) for counted in tables[kind[0]]}
            self.assertTrue(same(dead_places(system=system), tuple(sorted(all_places(system) - there))))
            met['none'] += len(empty)
            met['dead'] += len(dead_places(system))
        self.assertTrue(min(met.values()) > 30, met)

    def test_against_all_trees(self):
        """No process is at a dead place in any tree; where none is possible in some tree is told."""
        for system in list(SYSTEMS) + lively_systems(553, 40, places=6):
            dead = dead_places(system)
            for tree in all_trees(system, 8, 1500):
                for proc in procs_in(tree):
                    self.assertNotIn((proc[KIND], proc[PLACE]), dead)
            told = none_places(system)
            for kind in system:
                for tree in all_trees(cut_at(system, kind[0]), 7, 500):
                    first = [proc for proc in tree if proc[TAG] == ''][0]
                    if first[CODE] == -1 and looked_empty(kind, first[PLACE], first[SLOTS]):
                        self.assertIn((kind[0], first[PLACE]), told)

    def test_long_runs(self):
        """[9] Dead places stay empty in long runs."""
        rng = random.Random(554)
        for system in list(SYSTEMS) + lively_systems(555, 40):
            dead = dead_places(system)
            model = Model(system)
            for step in random_run(rng, system, 100):
                model.do(step)
                self.assertNotIn((model.all[step[0]].kind, model.all[step[0]].place), dead)

    def test_kinds_that_do_not_come(self):
        front = ('front', (), (('exit', 0),))
        self.assertEqual(dead_places((front, *SYSTEM)), tuple(sorted(all_places(SYSTEM))))
        self.assertEqual(dead_places((front, *BUSY)), tuple(sorted(all_places(BUSY))))
        empty = ('zempty', ('a',), (('wait', (('a', 1, 1, 1),), -1, 1, ()), ('exit', 0)))
        # None is told of the own runs of a kind, whether it comes or not.
        self.assertEqual(none_places((front, empty)), (('zempty', 0),))
        self.assertEqual(dead_places((front, empty)), (('zempty', 0), ('zempty', 1)))
        self.assertEqual(dead_places((empty, front)), (('front', 0),))

    def test_places_behind_what_never_comes(self):
        """Only a take with a code that no child has, or a none that never is, leads there."""
        fork = ('fork', 'lib', 't', 'a', 1)
        one = ('one', ('a',), (fork, ('wait', (('a', 2, 3, 4),), -1, 5, ()), ('exit', 0), ('exit', 0), ('exit', 0), ('exit', 1)))
        self.assertEqual(dead_places((one, LIB)), (('one', 3), ('one', 4), ('one', 5)))
        killed = ('one', ('a',), (fork, ('go', (2, 3)), ('kill', 'a', 3), *[
            ('wait', (('a', 4, 5, 6),), -1, 7, ())], ('exit', 0), ('exit', 0), ('exit', 0), ('exit', 1)))
        self.assertEqual(dead_places((killed, LIB)), (('one', 5), ('one', 7)))
        again = ('one', ('a',), (fork, ('wait', (('a', 1, 1, 1),), -1, 2, ()), ('exit', 0)))
        self.assertEqual([none_places((again, LIB)), dead_places((again, LIB))], [(('one', 1),), ()])
        poll = ('one', ('a',), (fork, ('poll', (('a', 1, 1, 1),), -1, 2, 3, ()), ('exit', 0), ('exit', 0)))
        self.assertEqual([none_places((poll, LIB)), dead_places((poll, LIB))], [(('one', 1),), ()])
        with_pool = ('one', ('a',), (fork, ('wait', (('a', 1, 1, 1),), 1, 2, ()), ('exit', 0)))
        self.assertEqual([none_places((with_pool, LIB)), dead_places((with_pool, LIB))], [(), ()])
        awake = ('awake', (), (('go', (0,)),))
        stays = ('one', (), (('fork', 'awake', 't', '', 1), ('wait', (), 2, 3, ()), ('exit', 0), ('exit', 0)))
        self.assertEqual(dead_places((stays, awake)), (('one', 2), ('one', 3)))
        self.assertEqual(dead_places(KEEPER), ())

    def test_the_pool_does_not_count(self):
        """Without a pool none depends on the slots of the rows alone."""
        kind = ('one', ('a', 'b'), (('fork', 'lib', 't', '', 1), ('fork', 'lib', 't', 'b', 2), ('wait', (('a', 3, 3, 3),), -1, 4, ()),
                                    ('exit', 0), ('exit', 0)))
        self.assertEqual([none_places((kind, LIB)), dead_places((kind, LIB))], [(('one', 2),), (('one', 3),)])

    def test_refused(self):
        for call in (none_places, dead_places):
            for wrong in odd_values() + [(), SYSTEM[:2]]:
                self.assertEqual(refusal(call, wrong), not_usable('system'))
        self.assertEqual(none_places((WORK, LIB)), ())


if __name__ == '__main__':
    unittest.main()

"""[39]: runs to a number of ended children, and to a number of endings."""

import random
import unittest

from forkyields.accounts import account_of
from forkyields.lives import life_of, run_to
from forkyields.numbersets import first_numbers, has_number
from forkyields.states import pool_of, state_of
from forkyields.systemparts import cut_at
from forkyields.tables import table_of
from tests.model import model_behind
from tests.ruleplay import played_tables
from tests.samples import (
    BUSY, KEEPER, LIB, SYSTEM, SYSTEMS, WORK, lively_systems, not_usable, odd_values, refusal, same)

LOOP = ('loop', (), (('go', (1, 2)), ('fork', 'lib', 'm', '', 0), ('exit', 0)))
THREE = ('three', ('a',), (('fork', 'lib', 'u', '', 1), ('fork', 'lib', 't', '', 2), ('fork', 'lib', 'u', 'a', 3),
                           ('release', 'a', 4), ('go', (0, 5)), ('wait', (), 6, 7, ()), ('wait', (), 5, 7, ()), ('exit', 1)))


class RunToTest(unittest.TestCase):
    def check(self, system, kind, state, number, living=False, tag=''):
        """Play what run_to returns by the independent player."""
        run = run_to(system, kind, state, number, living=living, tag=tag)
        own = cut_at(system, kind)
        model = model_behind(own, run)
        self.assertTrue(same(state_of(own, run, 0), state))
        self.assertEqual(model.all[0].code, -1)
        pool = model.in_slot(0, '')
        dead = [child for child in pool if child.code != -1]
        self.assertEqual(len(dead), number)
        self.assertEqual(len(pool) > len(dead), living)
        self.assertEqual(pool_of(own, run, 0)[0], number)
        if tag:
            self.assertIn(tag, [child.tag for child in dead])
        self.assertIs(type(run), tuple)

    def test_example(self):
        self.assertEqual(run_to(SYSTEM, 'work', (1, ()), 1), ((0, 'fork', -1), (1, 'exit', -1)))
        self.assertEqual(run_to(system=SYSTEM, kind='work', state=(1, ()), number=0, living=True, tag=''), ((0, 'fork', -1),))
        self.assertEqual(run_to(SYSTEM, 'work', (0, ()), 0), ())

    def test_each_number(self):
        rng = random.Random(390)
        met = set()
        for system in list(SYSTEMS) + [(LOOP, LIB), (THREE, LIB)] + lively_systems(391, 40, places=8):
            for kind in system:
                table = table_of(system, kind[0])
                for state, *told in rng.sample(table, min(len(table), 4)):
                    for living in (False, True):
                        for number in first_numbers(told[living], 4)[::3] + first_numbers(told[living], 2)[1:]:
                            self.check(system, kind[0], state, number, living)
                            met.add((living, number > 2))
        self.assertEqual(len(met), 4)

    def test_far_out(self):
        for number in (0, 1, 2, 3, 30, 31, 59, 60):
            for living in (False, True):
                self.check((LOOP, LIB), 'loop', (2, ()), number, living)
                self.check((('up', (), (('fork', 'loop', 'm', '', 1), ('exit', 0))), LOOP, LIB), 'up', (1, ()), max(number, 1),
                           living)
        for number in (0, 3, 57, 60):
            self.check((THREE, LIB), 'three', (0, ((),)), number)
            self.assertEqual(refusal(run_to, (THREE, LIB), 'three', (0, ((),)), number + 1), not_usable('number'))
            self.check((THREE, LIB), 'three', (0, ((),)), number + 1, living=True)
        for number in (1, 2, 31, 58):
            self.check((THREE, LIB), 'three', (6, ((),)), number)

    def test_with_a_tag(self):
        met = {True: 0, False: 0}
        rng = random.Random(392)
        for system in list(SYSTEMS) + [(LOOP, LIB), (THREE, LIB)] + lively_systems(393, 25, places=7):
            for tag in ('t', 'm', 'nosuch'):
                counted = played_tables(system, 24, tag)[0]
                for kind in system:
                    cases = sorted({(state, number, living) for state, number, _, living in counted[kind[0]] if number < 6})
                    for state, number, living in rng.sample(cases, min(len(cases), 5)):
                        there = any((state, number, m, living) in counted[kind[0]] for m in range(1, number + 1))
                        met[there] += 1
                        if there:
                            self.check(system, kind[0], state, number, living, tag)
                        else:
                            self.assertEqual(refusal(run_to, system, kind[0], state, number, living=living, tag=tag),
                                             not_usable('number'))
        self.assertTrue(met[True] > 40 and met[False] > 100, met)

    def test_far_out_with_a_tag(self):
        for tag, number in (('t', 60), ('u', 60), ('t', 59), ('u', 1), ('t', 1)):
            self.check((THREE, LIB), 'three', (6, ((),)), number, number == 59, tag)
        self.assertEqual(refusal(run_to, (THREE, LIB), 'three', (0, ((),)), 0, tag='t'), not_usable('number'))
        self.assertEqual(refusal(run_to, (THREE, LIB), 'three', (0, ((),)), 3, tag='v'), not_usable('number'))

    def test_lives_with_or_without_a_tag(self):
        """Children that can bring the same number with a tag or without it, in the pool, pushed out and in a slot."""
        twin = ('twin', (), (('go', (1, 2)), ('fork', 'lib', 't', '', 3), ('fork', 'lib', 'u', '', 3), ('exit', 0)))
        held = ('held', ('a',), (('go', (1, 2)), ('fork', 'lib', 't', 'a', 3), ('fork', 'lib', 'u', 'a', 3), ('exit', 0)))
        for child in (twin, held):
            name = child[0]
            system = (('up', ('a',), (('fork', name, 'm', '', 1), ('fork', name, 'm', 'a', 2), ('kill', 'a', 3), ('exit', 0))),
                      child, LIB)
            for tag in 'tu':
                self.check(system, 'up', (1, ((),)), 2, tag=tag)
                for content, number in (((1, 0), 3), ((1, 2), 3), ((1, 2), 2)):
                    self.check(system, 'up', (3, (content,)), number, tag=tag)
                self.check(system, 'up', (3, ((1, 2),)), 1, living=True, tag=tag)
                only = (('up', ('a',), (('fork', name, 'm', 'a', 1), ('kill', 'a', 2), ('exit', 0))), child, LIB)
                for content in ((0, 0), (0, 2)):
                    self.check(only, 'up', (2, (content,)), 1, tag=tag)
            self.assertEqual(refusal(run_to, system, 'up', (1, ((),)), 1, living=True, tag='t'), not_usable('number'))

    def test_takes_beside_a_tag(self):
        """Of two ended children in the pool the one without the tag is taken, whichever was forked first."""
        for first, second in ('tu', 'ut'):
            system = (('up', (), (('fork', 'lib', first, '', 1), ('fork', 'lib', second, '', 2), ('wait', (), 3, 3, ()),
                                  ('exit', 0))), LIB)
            for tag in 'tu':
                self.check(system, 'up', (3, ()), 1, tag=tag)

    def test_not_there(self):
        rng = random.Random(394)
        for system in list(SYSTEMS) + lively_systems(395, 20):
            for kind in system:
                table = table_of(system, kind[0])
                for state, *told in rng.sample(table, min(len(table), 5)):
                    for living in (False, True):
                        for number in [n for n in range(8) if not has_number(told[living], n)][:2] + rng.sample([-1, True, None, 'a', (0,)], 1):
                            self.assertEqual(refusal(run_to, system, kind[0], state, number, living=living),
                                             not_usable('number'))
                known = {row[0] for row in table}
                for place in range(len(kind[2])):
                    state = (place, ((),) * len(kind[1]))
                    if state not in known:
                        self.assertEqual(refusal(run_to, system, kind[0], state, 0), not_usable('number'))

    def test_refused(self):
        for wrong in odd_values() + [(), SYSTEM[:2]]:
            self.assertEqual(refusal(run_to, wrong, None, None, None, living=None, tag=None), not_usable('system'))
        for wrong in odd_values() + ['nosuch', 0, ('main',)]:
            self.assertEqual(refusal(run_to, SYSTEM, wrong, None, None, living=None, tag=None), not_usable('kind'))
        for wrong in odd_values() + [(0, ()), (7, ((),)), (0, ((), ())), (1, ((1, -1),)), (1, ((0, 3),)), (1, ((0, True),)),
                                     (True, ((),)), [1, ((),)], (1, [()]), (1, ((7, 0),)), (1, ((2, 0),)), 0]:
            self.assertEqual(refusal(run_to, SYSTEM, 'main', wrong, None, living=None, tag=None), not_usable('state'))
        state = (1, ((0, -1),))
        for wrong in odd_values() + [0, 1, 'True', (True,)]:
            if not isinstance(wrong, bool):
                self.assertEqual(refusal(run_to, SYSTEM, 'main', state, 99, living=wrong, tag=None), not_usable('living'))
        for wrong in odd_values() + [0, 'Tag', ('m',)]:
            if wrong is None or not isinstance(wrong, str) or wrong != '':
                self.assertEqual(refusal(run_to, SYSTEM, 'main', state, 99, living=True, tag=wrong), not_usable('tag'))
        self.assertEqual(refusal(run_to, SYSTEM, 'main', state, 99, living=True, tag='m'), not_usable('number'))
        self.assertEqual(refusal(run_to, SYSTEM, 'main', state, 0, living=True), not_usable('number'))
        with self.assertRaises(TypeError):
            run_to(SYSTEM, 'main', state, 0, False)


class LifeOfTest(unittest.TestCase):
    def check(self, system, kind, code, number, living=False):
        run = life_of(system, kind, code, number, living=living)
        model = model_behind(cut_at(system, kind), run)
        self.assertEqual(model.all[0].code, code)
        self.assertEqual(sum(process.code != -1 for process in model.there()), number)
        self.assertTrue(all(process.parent == -1 for process in model.there() if process.code != -1))
        self.assertEqual(bool(model.living()), living)
        self.assertIs(type(run), tuple)

    def test_example(self):
        self.assertEqual(len(life_of(SYSTEM, 'work', 0, 2)), 3)
        self.assertEqual(life_of(system=SYSTEM, kind='lib', code=0, number=1, living=False), ((0, 'exit', -1),))

    def test_each_number(self):
        met = set()
        for system in list(SYSTEMS) + [(LOOP, LIB), (THREE, LIB)] + lively_systems(396, 40, places=8):
            for kind in system:
                account = account_of(system, kind[0])
                for code in (0, 1):
                    for living in (False, True):
                        told = account[code][living]
                        for number in first_numbers(told, 4):
                            self.check(system, kind[0], code, number, living)
                            met.add((code, living, number > 2))
                        for number in [n for n in range(7) if not has_number(told, n)][:2] + [[-1, True, None, 'a', (1,)][code]]:
                            self.assertEqual(refusal(life_of, system, kind[0], code, number, living=living),
                                             not_usable('number'))
        self.assertEqual(len(met), 8)

    def test_far_out(self):
        for number in (1, 2, 30, 59, 60):
            for living in (False, True):
                self.check((LOOP, LIB), 'loop', 0, number, living)
        for number in (1, 2, 3, 4, 31, 60):
            self.check((THREE, LIB), 'three', 1, 1)
        up = ('up', ('a',), (('fork', 'loop', 'm', 'a', 1), ('kill', 'a', 2), ('exit', 0)))
        for number in (2, 3, 30, 60):
            for living in (False, True):
                self.check((up, LOOP, LIB), 'up', 0, number, living)

    def test_children_killed_in_the_midst(self):
        """A child that is killed has come to where its end brings that number; what it forked is handed on."""
        killer = ('killer', ('a',), (('fork', 'work', 'm', 'a', 1), ('kill', 'a', 2), ('exit', 1)))
        for number, living in ((2, False), (3, False), (2, True)):
            self.check((killer, WORK, LIB), 'killer', 1, number, living)

    def test_refused(self):
        for wrong in odd_values() + [(), SYSTEM[:2]]:
            self.assertEqual(refusal(life_of, wrong, None, None, None, living=None), not_usable('system'))
        for wrong in odd_values() + ['nosuch', 0, ('main',)]:
            self.assertEqual(refusal(life_of, SYSTEM, wrong, None, None, living=None), not_usable('kind'))
        for wrong in odd_values() + [2, 3, '0', (0,)]:
            self.assertEqual(refusal(life_of, SYSTEM, 'work', wrong, None, living=None), not_usable('code'))
        for wrong in odd_values() + [0, 1, 'True']:
            if not isinstance(wrong, bool):
                self.assertEqual(refusal(life_of, SYSTEM, 'work', 0, 99, living=wrong), not_usable('living'))
        self.assertEqual(refusal(life_of, SYSTEM, 'work', 0, 1), not_usable('number'))
        self.assertEqual(refusal(life_of, SYSTEM, 'work', 1, 2), not_usable('number'))
        with self.assertRaises(TypeError):
            life_of(SYSTEM, 'work', 0, 2, False)


if __name__ == '__main__':
    unittest.main()

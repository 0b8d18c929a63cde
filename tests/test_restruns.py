"""[52]: runs behind which trees, or parts of them, are at rest."""

import random
import unittest

from forkyields.numbersets import first_numbers, has_number
from forkyields.restruns import rest_run, resting_run
from forkyields.resting import rest_table, stuck_states
from forkyields.systemparts import cut_at
from forkyields.trees import is_at_rest
from tests.model import model_behind
from tests.samples import LIB, SYSTEM, SYSTEMS, lively_systems, not_usable, odd_values, refusal, sleepy_systems
from tests.test_resting import DEEP, HERD, NIGHT, SLEEPY, Z


def fits_state(model, state):
    """Whether process 0 lives in this state, as far as kind, tag and code of the children in slots tell."""
    first = model.all[0]
    _, slots, places = model.kinds[first.kind]
    if first.code != -1 or first.place != state[0]:
        return False
    for slot, content in zip(slots, state[1]):
        right = [(*places[content[0]][1:3], content[1])] if content else []
        if [(child.kind, child.tag, child.code) for child in model.in_slot(0, slot)] != right:
            return False
    return True


def below(model, numbers):
    """All processes of these numbers, and below them."""
    found = list(numbers)
    for number in found:
        found.extend(child.number for child in model.children(number))
    return found


class RestRunTest(unittest.TestCase):
    def check(self, system, kind, state):
        run = rest_run(system=system, kind=kind, state=state)
        self.assertIs(type(run), tuple)
        model = model_behind(cut_at(system, kind), run)
        self.assertTrue(fits_state(model, state))
        self.assertEqual(model.steps(), [])
        self.assertIs(is_at_rest(cut_at(system, kind), run), True)

    def test_each_stuck_state(self):
        met = 0
        for system in list(SLEEPY) + sleepy_systems(521, 150) + sleepy_systems(522, 60, tail=(Z, LIB)) + lively_systems(523, 30):
            for kind in system:
                for state in stuck_states(system, kind[0]):
                    self.check(system, kind[0], state)
                    met += 1
        self.assertGreater(met, 150)

    def test_by_hand(self):
        self.assertEqual(rest_run(NIGHT, 'z', (1, ((0, 0),))), ((0, 'fork', -1), (1, 'exit', -1)))
        self.check(NIGHT, 'main', (1, ()))
        self.check(DEEP, 'deep', (1, ((0, -1),)))
        self.check(DEEP, 'herd', (5, ((4, -1),)))
        # A living child is put to rest that is handed on when its parent ends, or is killed, or pushed out of its slot.
        gone = ('gone', ('a', 'b'), (('fork', 'z', 'p', 'a', 1), ('fork', 'z', 'q', 'a', 2), ('exit', 0)))
        for places in ((('fork', 'gone', 'm', 'c', 1), ('wait', (('c', 2, 2, 2),), 2, 2, ()), ('exit', 0)),
                       (('fork', 'gone', 'm', 'c', 1), ('kill', 'c', 2), ('wait', (('c', 3, 3, 3),), 3, 3, ()), ('wait', (), 3, 3, ())),
                       (('fork', 'gone', 'm', 'c', 1), ('fork', 'z', 'n', 'c', 2), ('release', 'c', 3), ('wait', (), 3, 3, ()))):
            system = (('up', ('c',), places), gone, Z, LIB)
            for state in stuck_states(system, 'up'):
                self.check(system, 'up', state)
        self.assertEqual(len(stuck_states(system, 'up')), 1)

    def test_refused(self):
        for wrong in odd_values() + [(), SYSTEM[:2]]:
            self.assertEqual(refusal(rest_run, wrong, None, None), not_usable('system'))
        for wrong in odd_values() + ['nosuch', 0, ('main',)]:
            self.assertEqual(refusal(rest_run, NIGHT, wrong, None), not_usable('kind'))
        for wrong in odd_values() + [(0, ()), (1, ()), (1, ((0, -1),)), (1, ((0, 1),)), (1, ((0, False),)), (True, ((0, 0),)),
                                     [1, ((0, 0),)], (1, [(0, 0)]), (1, ([0, 0],)), (1, ((1, 0),)), (1, ((0, 2),)), (2, ((),)), 1]:
            self.assertEqual(refusal(rest_run, NIGHT, 'z', wrong), not_usable('state'))
        self.assertIsNone(refusal(rest_run, NIGHT, 'z', (1, ((0, 0),))))
        self.assertEqual(refusal(rest_run, SYSTEM, 'main', (2, ((),))), not_usable('state'))


class RestingRunTest(unittest.TestCase):
    def check(self, system, kind, state, number):
        run = resting_run(system=system, kind=kind, state=state, number=number)
        self.assertIs(type(run), tuple)
        model = model_behind(cut_at(system, kind), run)
        self.assertTrue(fits_state(model, state))
        pool = model.in_slot(0, '')
        self.assertEqual(sum(child.code != -1 for child in pool), number)
        self.assertTrue([child for child in pool if child.code == -1])
        still = below(model, [child.number for child in pool])
        self.assertFalse([step for step in model.steps() if step[0] in still])

    def test_each_resting_number(self):
        rng = random.Random(524)
        met = {'near': 0, 'far': 0, 'none': 0}
        for system in list(SYSTEMS) + list(SLEEPY) + sleepy_systems(525, 120) + sleepy_systems(526, 60, tail=(Z, LIB)):
            for kind in system:
                rows = rest_table(system, kind[0])
                for state, _, resting in rng.sample(rows, min(len(rows), 5)):
                    for number in first_numbers(resting, 3):
                        self.check(system, kind[0], state, number)
                        met['near'] += 1
                    for number in [n for n in range(40, 61) if has_number(resting, n)][-1:]:
                        self.check(system, kind[0], state, number)
                        met['far'] += 1
                    for number in [n for n in range(6) if not has_number(resting, n)][:2]:
                        self.assertEqual(refusal(resting_run, system, kind[0], state, number), not_usable('number'))
                        met['none'] += 1
        self.assertTrue(met['near'] > 50 and met['far'] > 4 and met['none'] > 500, met)

    def test_far_out(self):
        for number in (0, 1, 2, 30, 59, 60):
            self.check(DEEP, 'herd', (5, ((),)), number)
            self.check(DEEP, 'herd', (5, ((4, -1),)), number)
        two = ('herd', (), (('go', (1, 3)), ('fork', 'lib', 'u', '', 2), ('fork', 'lib', 'u', '', 0), ('fork', 'z', 'v', '', 4),
                            ('wait', (), 5, 5, ()), ('exit', 0)))
        for number in (0, 2, 58, 60):
            self.check((two, Z, LIB), 'herd', (4, ()), number)
            self.assertEqual(refusal(resting_run, (two, Z, LIB), 'herd', (4, ()), number + 1), not_usable('number'))

    def test_slots_may_go_on(self):
        """Only what is in the pool, and below it, is at rest; in a slot a child of any kind may live."""
        both = ('both', ('a',), (('fork', 'z', 'p', '', 1), ('fork', 'loop', 'q', 'a', 2), ('go', (2,))))
        system = (both, ('loop', (), (('go', (0,)),)), Z, LIB)
        self.check(system, 'both', (2, ((1, -1),)), 0)
        self.assertEqual(stuck_states(system, 'both'), ())
        self.assertEqual(HERD[0], 'herd')

    def test_refused(self):
        for wrong in odd_values() + [(), SYSTEM[:2]]:
            self.assertEqual(refusal(resting_run, wrong, None, None, None), not_usable('system'))
        for wrong in odd_values() + ['nosuch', 0, ('main',)]:
            self.assertEqual(refusal(resting_run, NIGHT, wrong, None, None), not_usable('kind'))
        for wrong in odd_values() + [(0, ((),)), (3, ()), (True, ()), [1, ()], (1, []), 1]:
            self.assertEqual(refusal(resting_run, NIGHT, 'main', wrong, None), not_usable('state'))
        for wrong in odd_values() + [1, 2, '0', (0,), False]:
            self.assertEqual(refusal(resting_run, NIGHT, 'main', (1, ()), wrong), not_usable('number'))
        self.assertEqual(refusal(resting_run, NIGHT, 'main', (0, ()), 0), not_usable('number'))
        self.assertIsNone(refusal(resting_run, NIGHT, 'main', (1, ()), 0))


if __name__ == '__main__':
    unittest.main()

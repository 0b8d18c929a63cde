"""[32]: states of processes, and their pools."""

import random
import unittest

from forkyields.runs import is_run
from forkyields.states import first_state, pool_of, state_of
from tests.model import Model, random_run
from tests.samples import BUSY, KEEPER, LIB, RUN, SYSTEM, lively_systems, not_usable, odd_values, refusal, same
from tests.test_trees import runs as random_runs


def told_by_model(system, run):
    """The states and pools of all living processes, the places of the forks noted on the way."""
    model = Model(system)
    places = {0: -1}
    for step in run:
        if step[1] == 'fork':
            places[len(model.all)] = model.all[step[0]].place
        model.do(step)
    states, pools = {}, {}
    for process in model.living():
        contents = []
        for slot in model.kinds[process.kind][1]:
            held = model.in_slot(process.number, slot)
            contents.append((places[held[0].number], held[0].code) if held else ())
        states[process.number] = (process.place, tuple(contents))
        pool = model.in_slot(process.number, '')
        dead = sum(child.code != -1 for child in pool)
        pools[process.number] = (dead, len(pool) - dead)
    return states, pools


class StatesTest(unittest.TestCase):
    def test_example(self):
        self.assertEqual([first_state(SYSTEM, 'main'), state_of(SYSTEM, RUN, 0), pool_of(SYSTEM, RUN, 0)],
                         [(0, ((),)), (4, ((0, -1),)), (1, 0)])

    def test_first(self):
        for system in (SYSTEM, BUSY, KEEPER, (LIB,)) + tuple(lively_systems(320, 10)):
            for kind in system:
                self.assertTrue(same(first_state(system=system, kind=kind[0]), (0, ((),) * len(kind[1]))))

    def test_runs(self):
        rng = random.Random(321)
        made = random_runs(322, 30, 40)
        made += [(system, random_run(rng, system, 60)) for system in lively_systems(323, 60)]
        codes, children = set(), False
        for system, run in made:
            states, pools = told_by_model(system, run)
            for process in states:
                self.assertTrue(same(state_of(system, run, process), states[process]))
                self.assertTrue(same(pool_of(system=system, run=run, process=process), pools[process]))
                codes |= {content[1] if content else None for content in states[process][1]}
                children = children or (process > 0 and sum(pools[process]) > 0)
        self.assertEqual(codes, {None, -1, 0, 1, 2})
        self.assertTrue(children)

    def test_each_content(self):
        fork = (0, 'fork', -1)
        for steps, content in ((((1, 'go', 1), (1, 'exit', -1)), (0, 0)), (((1, 'go', 2), (1, 'exit', -1)), (0, 1)),
                               ((), (0, -1)), (((1, 'go', 2),), (0, -1))):
            self.assertEqual(state_of(KEEPER, (fork,) + steps, 0), (1, (content,)))
        self.assertEqual(state_of(KEEPER, (fork, (0, 'go', 2), (0, 'kill', -1)), 0), (3, ((0, 2),)))
        self.assertEqual(state_of(KEEPER, (fork, (0, 'go', 2), (0, 'kill', -1), (0, 'take', 1)), 0), (0, ((),)))

    def test_pool_of_handed_on(self):
        run = RUN[:5]
        self.assertEqual(pool_of(SYSTEM, run, 0), (2, 0))
        self.assertEqual(pool_of(SYSTEM, run[:4], 0), (1, 1))
        self.assertEqual(pool_of(SYSTEM, run[:3], 0), (0, 1))
        self.assertEqual(pool_of(SYSTEM, run[:3], 2), (0, 1))

    def test_refused(self):
        for wrong in odd_values() + [(), SYSTEM[:2]]:
            self.assertEqual(refusal(first_state, wrong, None), not_usable('system'))
            for call in (state_of, pool_of):
                self.assertEqual(refusal(call, wrong, None, None), not_usable('system'))
        for wrong in odd_values() + ['nosuch', 0, ('main',)]:
            self.assertEqual(refusal(first_state, SYSTEM, wrong), not_usable('kind'))
        for call in (state_of, pool_of):
            for wrong in odd_values() + [RUN[1:], list(RUN)]:
                if not is_run(SYSTEM, wrong):
                    self.assertEqual(refusal(call, SYSTEM, wrong, None), not_usable('run'))
            for wrong in odd_values() + [2, 3, 4, 10 ** 59, '0', (0,)]:
                self.assertEqual(refusal(call, SYSTEM, RUN, wrong), not_usable('process'))
            self.assertEqual(refusal(call, SYSTEM, (), False), not_usable('process'))
            self.assertIsNone(refusal(call, SYSTEM, RUN, 1))


if __name__ == '__main__':
    unittest.main()

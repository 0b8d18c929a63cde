"""Ladders: which numbers their nodes come to, and on which ways, against a plain search up to a bound."""

import random
import unittest

from forkyields.cycles import rising_cycle
from forkyields.ladders import Ladder, numbers_by_node, way_to
from tests.closed import members

STEPS = ('level', 'ground', 'above', 'up', 'down')


def random_ladder(rng, most=7):
    ladder = Ladder()
    many = rng.randint(1, most)
    for node in range(many):
        ladder.node_for(('node', node))
    for name in STEPS:
        for _ in range(rng.randint(0, many + 1)):
            getattr(ladder, name)[rng.randrange(many)].append(rng.randrange(many))
    return ladder


def reached(ladder, most):
    """All pairs of a node and a number to which steps lead without going beyond the bound."""
    found, pending = {(0, 0)}, [(0, 0)]
    while pending:
        node, number = pending.pop()
        after = [(target, number) for target in ladder.level[node] + (ladder.above[node] if number else ladder.ground[node])]
        after += [(target, number + 1) for target in ladder.up[node] if number < most]
        after += [(target, number - 1) for target in ladder.down[node] if number]
        for pair in after:
            if pair not in found:
                found.add(pair)
                pending.append(pair)
    return found


class LaddersTest(unittest.TestCase):
    def test_numbers(self):
        rng = random.Random(940)
        met = {0: 0, 1: 0}
        for _ in range(1500):
            ladder = random_ladder(rng)
            found = reached(ladder, 70)
            for node, told in enumerate(numbers_by_node(ladder)):
                right = {number for at, number in found if at == node and number <= 10}
                self.assertEqual({number for number in members(told) if number <= 10}, right)
                met[int(told[2] > 0)] += 1
        self.assertTrue(min(met.values()) > 200, met)

    def test_ways(self):
        rng = random.Random(941)
        for _ in range(300):
            ladder = random_ladder(rng)
            found = sorted(pair for pair in reached(ladder, 40) if pair[1] <= 12)
            node, number = rng.choice(found)
            way = way_to(ladder, {node: ((number,), (), 0)})
            self.assertEqual((way[0], way[-1]), ((0, 0), (node, number)))
            for before, after in zip(way, way[1:]):
                self.assertIn(after, ladder.steps_from(*before))

    def test_long_ways_down(self):
        """Up many steps, and down by other ones: each height has its own way back."""
        ladder = Ladder()
        for node in range(6):
            ladder.node_for(('node', node))
        ladder.up[0] = [1]
        ladder.up[1] = [2]
        ladder.up[2] = [0]
        ladder.level[1] = [3]
        ladder.down[3] = [4]
        ladder.down[4] = [3]
        ladder.ground[4] = [5]
        told = numbers_by_node(ladder)
        self.assertEqual([told[0], told[1], told[2]], [((), (0,), 3), ((), (1,), 3), ((), (2,), 3)])
        self.assertEqual(told[5], ((0,), (), 0))
        found = reached(ladder, 70)
        for node in (3, 4):
            self.assertEqual({n for n in members(told[node]) if n <= 10}, {n for at, n in found if at == node and n <= 10})


class CyclesTest(unittest.TestCase):
    def test_rising_cycles(self):
        """Graphs with a cycle of steps that add more than 0 together, which was put there."""
        rng = random.Random(942)
        for _ in range(800):
            many = rng.randint(1, 8)
            rises = [[(rng.randrange(many), rng.choice((-1, -1, 0))) for _ in range(rng.randint(0, 3))] for _ in range(many)]
            nodes = rng.sample(range(many), rng.randint(1, many))
            adds = [rng.choice((-1, 0, 1, 3)) for _ in nodes]
            adds[0] += 1 - min(sum(adds), 0)
            for node, after, by in zip(nodes, nodes[1:] + nodes[:1], adds):
                rises[node].append((after, by))
            if sum(adds) <= 0:
                continue
            turn = rising_cycle(rises)
            self.assertEqual((turn[0][0], turn[0][1]), (turn[-1][0], 0))
            self.assertGreater(turn[-1][1], 0)
            for (node, total), (after, grown) in zip(turn, turn[1:]):
                self.assertIn((after, grown - total), rises[node])
                self.assertGreaterEqual(grown, 0)


if __name__ == '__main__':
    unittest.main()

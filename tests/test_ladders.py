"""Ladders: which numbers their nodes come to, and on which ways, against a plain search up to a bound."""

import random
import unittest

from forkyields.cycles import rising_cycle
from forkyields.ladders import Ladder, way_to
from forkyields.levels import numbers_by_node
from forkyields.numbersets import joined_sets, moved_set
from tests.closed import members

STEPS = ('level', 'ground', 'above', 'up', 'down')


NONE = ((), (), 0)
TOLD = [((0, 3), (), 0), ((), (1,), 2), ((0,), (2, 3), 5), ((7,), (), 0), ((), (0,), 3), ((), (4,), 1), ((1,), (3,), 4), ((2,), (), 0)]


def random_ladder(rng, most=7):
    """Some nodes, steps between them, rises by any number of a set, and falls."""
    ladder = Ladder()
    many = rng.randint(1, most)
    for node in range(many):
        ladder.node_for(('node', node))
    for name in STEPS:
        for _ in range(rng.randint(0, many + 1)):
            getattr(ladder, name)[rng.randrange(many)].append(rng.randrange(many))
    for _ in range(rng.randint(0, 3)):
        ladder.rise(rng.randrange(many), rng.choice(TOLD), rng.randrange(many))
    for _ in range(rng.randint(0, 2)):
        ladder.fall(rng.randrange(many), rng.randrange(many), rng.random() < 0.5)
    return ladder


def reached(ladder, most):
    """All pairs of a node and a number to which steps lead without going beyond the bound."""
    found, pending = {(0, 0)}, [(0, 0)]
    while pending:
        node, number = pending.pop()
        after = [(target, number) for target in ladder.level[node] + (ladder.above[node] if number else ladder.ground[node])]
        after += [(target, number + 1) for target in ladder.up[node] if number < most]
        after += [(target, number - 1) for target in ladder.down[node] if number]
        for pair in after:
            if pair not in found:
                found.add(pair)
                pending.append(pair)
    return found


class LaddersTest(unittest.TestCase):
    def test_numbers(self):
        rng = random.Random(940)
        met = {0: 0, 1: 0}
        for _ in range(1500):
            ladder = random_ladder(rng)
            found = reached(ladder, 70)
            numbers = numbers_by_node(ladder)
            for node in [node for node, name in enumerate(ladder.nodes) if name[0] == 'node']:
                told = numbers.get(node, NONE)
                right = {number for at, number in found if at == node and number <= 10}
                self.assertEqual({number for number in members(told) if number <= 10}, right)
                met[int(told[2] > 0)] += 1
        self.assertTrue(min(met.values()) > 200, met)

    def test_ways(self):
        rng = random.Random(941)
        for _ in range(300):
            ladder = random_ladder(rng)
            found = sorted(pair for pair in reached(ladder, 40) if pair[1] <= 12)
            node, number = rng.choice(found)
            way = way_to(ladder, {node: ((number,), (), 0)})
            self.assertEqual((way[0], way[-1]), ((0, 0), (node, number)))
            for before, after in zip(way, way[1:]):
                self.assertIn(after, ladder.steps_from(*before))

    def test_long_ways_down(self):
        """Up many steps, and down by other ones: each height has its own way back."""
        ladder = Ladder()
        for node in range(6):
            ladder.node_for(('node', node))
        ladder.up[0] = [1]
        ladder.up[1] = [2]
        ladder.up[2] = [0]
        ladder.level[1] = [3]
        ladder.down[3] = [4]
        ladder.down[4] = [3]
        ladder.ground[4] = [5]
        told = numbers_by_node(ladder)
        self.assertEqual([told[0], told[1], told[2]], [((), (0,), 3), ((), (1,), 3), ((), (2,), 3)])
        self.assertEqual(told[5], ((0,), (), 0))
        found = reached(ladder, 70)
        for node in (3, 4):
            self.assertEqual({n for n in members(told[node]) if n <= 10}, {n for at, n in found if at == node and n <= 10})


    def test_rises_by_many(self):
        """Each number of a set, and no other one, whatever the period; several rises to one node, and one behind another."""
        for told in (((0, 3), (), 0), ((), (1,), 60), ((600,), (), 0), ((5,), (100, 131), 60), ((), (0,), 59), ((), tuple(range(1, 60, 7)), 60)):
            ladder = Ladder()
            for node in range(3):
                ladder.node_for(('node', node))
            ladder.rise(0, told, 1)
            ladder.rise(1, ((2,), (), 0), 2)
            ladder.rise(0, ((1,), (), 0), 2)
            numbers = numbers_by_node(ladder)
            self.assertEqual([numbers[0], joined_sets(numbers[1])], [((0,), (), 0), joined_sets(told)])
            self.assertEqual(numbers[2], joined_sets(moved_set(told, 2), ((1,), (), 0)))

    def test_two_periods(self):
        """A rise by each of two sets one behind the other, and down again by threes."""
        ladder = Ladder()
        for node in range(6):
            ladder.node_for(('node', node))
        ladder.rise(0, ((), (0,), 13), 1)
        ladder.rise(0, ((), (5,), 11), 1)
        ladder.down[1] = [2]
        ladder.down[2] = [3]
        ladder.down[3] = [1]
        numbers = numbers_by_node(ladder)
        self.assertEqual([numbers[node] for node in (1, 2, 3)], [((), (0,), 1)] * 3)


class CyclesTest(unittest.TestCase):
    def test_rising_cycles(self):
        """Graphs with a cycle of steps that add more than 0 together, which was put there."""
        rng = random.Random(942)
        for _ in range(800):
            many = rng.randint(1, 8)
            rises = [[(rng.randrange(many), rng.choice((-1, -1, 0))) for _ in range(rng.randint(0, 3))] for _ in range(many)]
            nodes = rng.sample(range(many), rng.randint(1, many))
            adds = [rng.choice((-1, 0, 1, 3)) for _ in nodes]
            adds[0] += 1 - min(sum(adds), 0)
            for node, after, by in zip(nodes, nodes[1:] + nodes[:1], adds):
                rises[node].append((after, by))
            if sum(adds) <= 0:
                continue
            turn = rising_cycle(rises)
            self.assertEqual((turn[0][0], turn[0][1]), (turn[-1][0], 0))
            self.assertGreater(turn[-1][1], 0)
            for (node, total), (after, grown) in zip(turn, turn[1:]):
                self.assertIn((after, grown - total), rises[node])
                self.assertGreaterEqual(grown, 0)


if __name__ == '__main__':
    unittest.main()

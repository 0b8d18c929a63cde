"""[4], [5], [22] to [24]: the tree of processes behind a run, and what each step does to it."""

import random
import unittest

from forkyields import trees
from tests.model import model_behind, random_run
from tests.samples import BUSY, RUN, SYSTEM, SYSTEMS, not_usable, odd_values, random_systems, refusal, same

LEAF = ('leaf', (), (('exit', 0), ))
ONE = ('one', (), (('exit', 1), ))
EXIT = ('exit', 0)


def runs(seed, many, most):
    """Random runs of random systems."""
    rng = random.Random(seed)
    systems = list(SYSTEMS) + [BUSY] * 8 + random_systems(seed, many)
    return [(system, random_run(rng, system, rng.randint(0, most))) for system in systems for _ in range(3)]


def steps(*told):
    """Steps from short forms: a word alone has the number -1."""
    return tuple(step if len(step) == 3 else (*step, -1) for step in told)


class StepsTest(unittest.TestCase):
    """Each word's steps and what each does, row by row."""

    def row(self, system, run, process):
        return [row for row in trees.tree_after(system, run) if row[0] == process][0]

    def test_begin(self):
        self.assertEqual(trees.tree_after(BUSY, ()), ((0, 'top', '', -1, -1, 0, (-1, -1), ()),))
        self.assertEqual(trees.next_steps(BUSY, ()), ((0, 'fork', -1),))

    def test_go(self):
        system = (('a', (), (('go', (0, 2)), EXIT, ('go', (1,)))),)
        self.assertEqual(trees.next_steps(system, ()), ((0, 'go', 0), (0, 'go', 2)))
        self.assertEqual(trees.tree_after(system, steps((0, 'go', 2)))[0][5], 2)
        self.assertEqual(trees.next_steps(system, steps((0, 'go', 2))), ((0, 'go', 1),))

    def test_forks(self):
        system = (('a', ('s', 't'), (('fork', 'leaf', 'x', 't', 1), ('fork', 'leaf', 'y', 't', 2),
                                     ('fork', 'leaf', 'z', '', 0))), LEAF)
        run = steps((0, 'fork'))
        self.assertEqual(trees.tree_after(system, run), (
            (0, 'a', '', -1, -1, 1, (-1, 1), ()), (1, 'leaf', 'x', 0, -1, 0, (), ())))
        run = steps((0, 'fork'), (0, 'fork'))
        self.assertEqual(trees.tree_after(system, run)[0], (0, 'a', '', -1, -1, 2, (-1, 2), (1,)))
        run = steps((0, 'fork'), (1, 'exit'), (0, 'fork'), (0, 'fork'))
        self.assertEqual(trees.tree_after(system, run), (
            (0, 'a', '', -1, -1, 0, (-1, 2), (1, 3)), (1, 'leaf', 'x', 0, 0, 0, (), ()),
            (2, 'leaf', 'y', 0, -1, 0, (), ()), (3, 'leaf', 'z', 0, -1, 0, (), ())))

    def test_two_filled_slots(self):
        places = (('fork', 'leaf', 'x', 's', 1), ('fork', 'leaf', 'y', 't', 2), ('go', (3, 4, 5)),
                  ('fork', 'leaf', 'z', 's', 6), ('release', 't', 6), ('wait', (('s', 6, 7, 7), ('t', 6, 7, 7)), -1, 7, ()),
                  EXIT, EXIT)
        system = (('a', ('s', 't'), places), LEAF)
        run = steps((0, 'fork'), (0, 'fork'), (1, 'exit'), (2, 'exit'))
        for middle, slots, pool in ((steps((0, 'go', 3), (0, 'fork')), (3, 2), (1,)),
                                    (steps((0, 'go', 4), (0, 'release')), (1, -1), (2,)),
                                    (steps((0, 'go', 5), (0, 'take', 1)), (-1, 2), ()),
                                    (steps((0, 'go', 5), (0, 'take', 2)), (1, -1), ())):
            self.assertEqual(self.row(system, run + middle, 0), (0, 'a', '', -1, -1, 6, slots, pool))

    def taker(self, word, pool, later=()):
        places = (('fork', 'mid', 'x', 's', 1), ('fork', 'one', 'p', '', 2), ('go', (3, 4)),
                  (word, (('s', 5, 6, 7),), pool, 8, *later, ()), ('kill', 's', 3), EXIT, EXIT, EXIT, EXIT, EXIT, EXIT)
        return (('a', ('s',), places), ('mid', (), (('go', (1, 2)), EXIT, ('exit', 1))), ONE)

    def test_take_from_a_slot_by_code(self):
        begin = steps((0, 'fork'), (0, 'fork'))
        for pool in (-1, 9):
            system = self.taker('wait', pool)
            for middle, target in ((steps((0, 'go', 3), (1, 'go', 1), (1, 'exit')), 5),
                                   (steps((0, 'go', 3), (1, 'go', 2), (1, 'exit')), 6),
                                   (steps((0, 'go', 4), (0, 'kill')), 7)):
                self.assertEqual([step for step in trees.next_steps(system, begin + middle) if step[0] == 0],
                                 [(0, 'take', 1)])
                run = begin + middle + steps((0, 'take', 1))
                self.assertEqual(trees.tree_after(system, run), (
                    (0, 'a', '', -1, -1, target, (-1,), (2,)), (2, 'one', 'p', 0, -1, 0, (), ())))

    def test_take_from_the_pool(self):
        run = steps((0, 'fork'), (0, 'fork'), (0, 'go', 3), (2, 'exit'), (1, 'go', 1), (1, 'exit'))
        system = self.taker('poll', 9, (10,))
        self.assertEqual(trees.next_steps(system, run), ((0, 'later', -1), (0, 'take', 1), (0, 'take', 2)))
        self.assertEqual(self.row(system, run + steps((0, 'take', 2)), 0), (0, 'a', '', -1, -1, 9, (1,), ()))
        system = self.taker('poll', -1, (10,))
        self.assertEqual(trees.next_steps(system, run), ((0, 'later', -1), (0, 'take', 1)))
        self.assertEqual(self.row(system, run + steps((0, 'later')), 0)[5], 10)

    def test_none_and_later(self):
        for pool in (-1, 9):
            for word, later in (('wait', ()), ('poll', (10,))):
                for kids, hindered in ((('',), pool != -1), (('s',), True), (('t',), pool != -1), ((), False)):
                    forks = tuple(('fork', 'leaf', 'x', slot, k + 1) for k, slot in enumerate(kids))
                    places = (*forks, (word, (('s', 0, 0, 0),), pool, 8, *later, ())) + (EXIT,) * 11
                    system = (('a', ('s', 't'), places), LEAF)
                    begin = steps(*[(0, 'fork')] * len(kids))
                    told = [step[1:] for step in trees.next_steps(system, begin) if step[0] == 0]
                    if not hindered:
                        self.assertEqual(told, [('none', -1)])
                        self.assertEqual(self.row(system, begin + steps((0, 'none')), 0)[5], 8)
                    else:
                        self.assertEqual(told, [('later', -1)] if later else [])

    def test_none_with_ended_children(self):
        places = (('fork', 'leaf', 'x', '', 1), ('fork', 'leaf', 'x', 't', 2), ('wait', (), 3, 3, ()), EXIT)
        system = (('a', ('t',), places), LEAF)
        run = steps((0, 'fork'), (0, 'fork'), (1, 'exit'), (2, 'exit'))
        self.assertEqual(trees.next_steps(system, run), ((0, 'take', 1),))
        alone = (('a', ('t',), (('fork', 'leaf', 'x', 't', 1), ('wait', (), 2, 2, ()), EXIT)), LEAF)
        run = steps((0, 'fork'), (1, 'exit'))
        self.assertEqual(trees.next_steps(alone, run), ())
        self.assertIs(trees.is_at_rest(alone, run), True)
        self.assertIs(trees.is_at_rest(alone, run[:1]), False)

    def test_kill(self):
        system = (('a', ('s',), (('fork', 'b', 'x', 's', 1), ('kill', 's', 2), ('kill', 's', 3), ('release', 's', 4),
                                 ('kill', 's', 5), EXIT)),
                  ('b', ('u',), (('fork', 'leaf', 'y', 'u', 1), ('fork', 'leaf', 'z', '', 2), EXIT)), LEAF)
        run = steps((0, 'fork'), (1, 'fork'), (1, 'fork'), (2, 'exit'), (0, 'kill'))
        tree = ((0, 'a', '', -1, -1, 2, (1,), (2, 3)), (1, 'b', 'x', 0, 2, 2, (-1,), ()),
                (2, 'leaf', 'y', 0, 0, 0, (), ()), (3, 'leaf', 'z', 0, -1, 0, (), ()))
        self.assertEqual(trees.tree_after(system, run), tree)
        run = run + steps((0, 'kill'))
        self.assertEqual(trees.tree_after(system, run), ((0, 'a', '', -1, -1, 3, (1,), (2, 3)), *tree[1:]))
        run = run + steps((0, 'release'))
        self.assertEqual(trees.tree_after(system, run), ((0, 'a', '', -1, -1, 4, (-1,), (1, 2, 3)), *tree[1:]))
        run = run + steps((0, 'kill'))
        self.assertEqual(trees.tree_after(system, run), ((0, 'a', '', -1, -1, 5, (-1,), (1, 2, 3)), *tree[1:]))

    def test_kill_of_one_that_ended_itself(self):
        system = (('a', ('s',), (('fork', 'one', 'x', 's', 1), ('kill', 's', 2), EXIT)), ONE)
        run = steps((0, 'fork'), (1, 'exit'), (0, 'kill'))
        self.assertEqual(self.row(system, run, 1)[4], 1)

    def test_release(self):
        system = (('a', ('s',), (('release', 's', 1), ('fork', 'leaf', 'x', 's', 2), ('release', 's', 3), EXIT)), LEAF)
        self.assertEqual(self.row(system, steps((0, 'release')), 0), (0, 'a', '', -1, -1, 1, (-1,), ()))
        run = steps((0, 'release'), (0, 'fork'), (0, 'release'))
        self.assertEqual(self.row(system, run, 0), (0, 'a', '', -1, -1, 3, (-1,), (1,)))
        run = steps((0, 'release'), (0, 'fork'), (1, 'exit'), (0, 'release'))
        self.assertEqual(self.row(system, run, 0), (0, 'a', '', -1, -1, 3, (-1,), (1,)))

    def test_exit_over_several_layers(self):
        def forking(name, slot, below):
            return (name, ('s',), (('fork', below, 't', slot, 1), EXIT))

        system = (forking('a', 's', 'b'), forking('b', 's', 'c'), forking('c', '', 'd'), forking('d', 's', 'e'),
                  ('e', (), (EXIT,)))
        run = steps((0, 'fork'), (1, 'fork'), (2, 'fork'), (3, 'fork'), (2, 'exit'))
        self.assertEqual(trees.tree_after(system, run)[1:4], (
            (1, 'b', 't', 0, -1, 1, (2,), (3,)), (2, 'c', 't', 1, 0, 1, (-1,), ()), (3, 'd', 't', 1, -1, 1, (4,), ())))
        run = run + steps((1, 'exit'))
        self.assertEqual(trees.tree_after(system, run), (
            (0, 'a', '', -1, -1, 1, (1,), (2, 3)), (1, 'b', 't', 0, 0, 1, (-1,), ()), (2, 'c', 't', 0, 0, 1, (-1,), ()),
            (3, 'd', 't', 0, -1, 1, (4,), ()), (4, 'e', 't', 3, -1, 0, (), ())))
        run = run + steps((0, 'exit'))
        self.assertEqual([row[3] for row in trees.tree_after(system, run)], [-1, -1, -1, -1, 3])
        self.assertEqual(trees.next_steps(system, run), ((3, 'exit', -1), (4, 'exit', -1)))
        run = run + steps((3, 'exit'), (4, 'exit'))
        self.assertEqual([row[3:5] for row in trees.tree_after(system, run)], [(-1, 0)] * 5)
        self.assertTrue(trees.is_at_rest(system, run))


class TreesTest(unittest.TestCase):
    def test_examples(self):
        self.assertEqual(trees.tree_after(SYSTEM, RUN), (
            (0, 'main', '', -1, -1, 4, (1,), (2,)), (1, 'lib', 'l', 0, -1, 0, (), ()),
            (2, 'work', 'm', 0, 0, 1, (), ())))
        self.assertEqual(trees.next_steps(SYSTEM, RUN), ((1, 'exit', -1),))
        self.assertEqual([trees.parent_of(SYSTEM, RUN[:5], 3), trees.lying_with(SYSTEM, RUN[:5], 0),
                          trees.forker_of(SYSTEM, RUN, 3)], [0, (2, 3), 2])

    def test_against_the_model(self):
        words = set()
        for system, run in runs(22, 120, 40):
            model = model_behind(system, run)
            words |= {(step[1]) for step in run}
            self.assertTrue(same(trees.tree_after(system, run), model.rows()))
            self.assertTrue(same(trees.next_steps(system, run), tuple(model.steps())))
            self.assertIs(trees.is_at_rest(system, run), not model.steps())
            self.questions(system, run, model)
        self.assertEqual(words, {'go', 'fork', 'take', 'none', 'later', 'kill', 'release', 'exit'})

    def questions(self, system, run, model):
        for process in model.all:
            p = process.number
            self.assertEqual(trees.forker_of(system, run, p), process.forker)
            if process.gone:
                for call in (trees.parent_of, trees.children_of, trees.lying_with):
                    self.assertEqual(refusal(call, system, run, p), not_usable('process'))
                continue
            self.assertEqual(trees.parent_of(system, run, p), process.parent)
            children = model.children(p)
            self.assertTrue(same(trees.children_of(system, run, p), tuple(child.number for child in children)))
            if process.code == -1:
                lying = tuple(child.number for child in children if child.code != -1)
                self.assertTrue(same(trees.lying_with(system, run, p), lying))
            else:
                self.assertEqual(refusal(trees.lying_with, system, run, p), not_usable('process'))

    def test_refusals(self):
        runs_that_are_none = odd_values() + [list(RUN), RUN[1:], RUN + RUN, (None,), ((0, 'fork', -1), (1, 'take', 0))]
        for wrong in odd_values() + [(), SYSTEM[:2]]:
            for call in (trees.tree_after, trees.next_steps, trees.is_at_rest):
                self.assertEqual(refusal(call, wrong, None), not_usable('system'))
            for call in (trees.parent_of, trees.children_of, trees.lying_with, trees.forker_of):
                self.assertEqual(refusal(call, wrong, None, None), not_usable('system'))
        for wrong in runs_that_are_none:
            for call in (trees.tree_after, trees.next_steps, trees.is_at_rest):
                self.assertEqual(refusal(call, SYSTEM, wrong), not_usable('run'))
            for call in (trees.parent_of, trees.children_of, trees.lying_with, trees.forker_of):
                self.assertEqual(refusal(call, SYSTEM, wrong, None), not_usable('run'))
        for wrong in odd_values() + [4, 10 ** 59, 'a', (), (0,)]:
            for call in (trees.parent_of, trees.children_of, trees.lying_with, trees.forker_of):
                self.assertEqual(refusal(call, SYSTEM, RUN, wrong), not_usable('process'))

    def test_by_name(self):
        self.assertEqual(trees.tree_after(system=(LEAF,), run=()), ((0, 'leaf', '', -1, -1, 0, (), ()),))
        self.assertEqual(trees.next_steps(system=(LEAF,), run=()), ((0, 'exit', -1),))
        self.assertEqual(trees.is_at_rest(system=(LEAF,), run=()), False)
        self.assertEqual(trees.parent_of(system=SYSTEM, run=RUN, process=1), 0)
        self.assertEqual(trees.children_of(system=SYSTEM, run=RUN, process=0), (1, 2))
        self.assertEqual(trees.children_of(SYSTEM, RUN, 2), ())
        self.assertEqual(trees.lying_with(system=SYSTEM, run=RUN, process=0), (2,))
        self.assertEqual(trees.forker_of(system=SYSTEM, run=RUN, process=0), -1)
        self.assertEqual(trees.parent_of(SYSTEM, (), 0), -1)


class ConsequencesTest(unittest.TestCase):
    """[24]: what follows from the definitions."""

    def line_above(self, model, process):
        """The processes that a process comes of, the one that was forked last first."""
        line = []
        while model.all[process].forker != -1:
            process = model.all[process].forker
            line.append(process)
        return line

    def test_parents(self):
        for system, run in runs(24, 60, 40):
            model = model_behind(system, run)
            gone = {step[2] for step in run if step[1] == 'take'}
            there = {row[0]: row for row in trees.tree_after(system, run)}
            self.assertEqual(set(there) | gone, set(range(len(model.all))))
            self.assertFalse(set(there) & gone)
            for number in there:
                living = [p for p in self.line_above(model, number) if p in there and there[p][4] == -1]
                self.assertEqual(trees.parent_of(system, run, number), (living + [-1])[0])

    def test_none(self):
        for system, run in runs(25, 60, 40):
            model = model_behind(system, run)
            possible = trees.next_steps(system, run)
            for process in model.living():
                instruction = model.instruction(process)
                if instruction[0] in ('wait', 'poll') and instruction[2] != -1:
                    came = [other for other in model.there() if process.number in self.line_above(model, other.number)]
                    self.assertEqual((process.number, 'none', -1) in possible, not came)

    def test_neighbours_change_places(self):
        many = 0
        for system, run in runs(26, 60, 30):
            model = model_behind(system, run)
            for k in range(len(run) - 1):
                first, second = run[k:k + 2]
                p, q = first[0], second[0]
                if p == q or p in self.line_above(model, q) or q in self.line_above(model, p):
                    continue
                if first[1] == second[1] == 'fork':
                    continue
                many += 1
                changed = run[:k] + (second, first) + run[k + 2:]
                self.assertEqual(trees.tree_after(system, changed), trees.tree_after(system, run))
        self.assertGreater(many, 50)

    def test_neighbouring_forks_change_places(self):
        many = 0
        for system, run in runs(27, 80, 30):
            model = model_behind(system, run)
            for k in range(len(run) - 1):
                first, second = run[k:k + 2]
                p, q = first[0], second[0]
                apart = p != q and p not in self.line_above(model, q) and q not in self.line_above(model, p)
                if not apart or not first[1] == second[1] == 'fork':
                    continue
                many += 1
                new = 1 + sum(step[1] == 'fork' for step in run[:k])
                swapped = {new: new + 1, new + 1: new}
                changed = run[:k] + (second, first) + tuple(
                    (swapped.get(a, a), word, swapped.get(b, b) if word == 'take' else b) for a, word, b in run[k + 2:])
                tree = [(swapped.get(row[0], row[0]), *row[1:3], swapped.get(row[3], row[3]), *row[4:6],
                         tuple(swapped.get(c, c) for c in row[6]), tuple(sorted(swapped.get(c, c) for c in row[7])))
                        for row in trees.tree_after(system, changed)]
                self.assertEqual(tuple(sorted(tree)), trees.tree_after(system, run))
        self.assertGreater(many, 3)


if __name__ == '__main__':
    unittest.main()

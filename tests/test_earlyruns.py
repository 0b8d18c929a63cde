"""[27] and (F1): runs rearranged, all that comes of a child directly behind its fork."""

import unittest

from forkyields.earlyruns import early_numbers, early_run, is_early
from forkyields.runs import is_run, view_of
from forkyields.trees import tree_after
from tests.samples import LIB, RUN, SYSTEM, not_usable, odd_values, refusal, same
from tests.test_trees import runs as random_runs


def arranged(run):
    """The old numbers in the order of the early run, and its steps with the old numbers."""
    forked, children = 0, {}
    for k, step in enumerate(run):
        if step[1] == 'fork':
            forked += 1
            children[k] = forked
    order, steps = [], []

    def tell(process):
        order.append(process)
        for k, step in enumerate(run):
            if step[0] == process:
                steps.append(step)
                if k in children:
                    tell(children[k])

    tell(0)
    return order, steps


class EarlyRunsTest(unittest.TestCase):
    def test_example(self):
        right = ((0, 'fork', -1), (0, 'fork', -1), (2, 'fork', -1), (3, 'exit', -1), (2, 'exit', -1), (0, 'take', 3))
        self.assertEqual(early_run(SYSTEM, RUN), right)
        self.assertEqual(early_numbers(SYSTEM, RUN), (0, 1, 2, 3))
        self.assertEqual([is_early(SYSTEM, RUN), is_early(SYSTEM, right)], [False, True])

    def test_forks_that_interleave(self):
        a = ('a', (), (('fork', 'b', 't', '', 1), ('fork', 'b', 'u', '', 2), ('wait', (), 2, 3, ()), ('exit', 0)))
        b = ('b', (), (('fork', 'lib', 'v', '', 1), ('fork', 'lib', 'w', '', 2), ('exit', 1)))
        system = (a, b, LIB)
        run = ((0, 'fork', -1), (0, 'fork', -1), (2, 'fork', -1), (1, 'fork', -1), (1, 'fork', -1), (3, 'exit', -1),
               (2, 'fork', -1), (2, 'exit', -1), (0, 'take', 3))
        self.assertEqual(early_numbers(system, run), (0, 1, 4, 5, 2, 3, 6))
        self.assertEqual(early_run(system, run), (
            (0, 'fork', -1), (1, 'fork', -1), (1, 'fork', -1), (0, 'fork', -1), (4, 'fork', -1), (5, 'exit', -1),
            (4, 'fork', -1), (4, 'exit', -1), (0, 'take', 5)))

    def test_against_the_definition(self):
        moved = 0
        for system, run in random_runs(33, 100, 50):
            order, steps = arranged(run)
            numbers = tuple(order.index(process) for process in range(len(order)))
            told = tuple((numbers[p], word, numbers[n] if word == 'take' else n) for p, word, n in steps)
            self.assertTrue(same(early_numbers(system, run), numbers))
            self.assertTrue(same(early_run(system, run), told))
            self.assertIs(is_early(system, run), told == run)
            moved += told != run
            self.assertTrue(is_run(system, told))
            self.assertIs(is_early(system, told), True)
            self.assertEqual(early_run(system, told), told)
            self.assertEqual(early_numbers(system, told), tuple(range(len(order))))
            self.consequences(system, run, told, dict(enumerate(numbers)) | {-1: -1})
        self.assertGreater(moved, 50)

    def consequences(self, system, run, told, numbers):
        for process in numbers:
            if process != -1:
                self.assertEqual(view_of(system, run, process), view_of(system, told, numbers[process]))
        tree = [(numbers[p], kind, tag, numbers[parent], code, place, tuple(numbers[c] for c in slots),
                 tuple(sorted(numbers[c] for c in pool)))
                for p, kind, tag, parent, code, place, slots, pool in tree_after(system, run)]
        self.assertEqual(tuple(sorted(tree)), tree_after(system, told))

    def test_refusals(self):
        for call in (early_numbers, early_run, is_early):
            for wrong in odd_values() + [(), SYSTEM[:2]]:
                self.assertEqual(refusal(call, wrong, None), not_usable('system'))
            for wrong in odd_values() + [list(RUN), RUN[1:], RUN + RUN]:
                self.assertEqual(refusal(call, SYSTEM, wrong), not_usable('run'))
        self.assertEqual(early_numbers(system=SYSTEM, run=()), (0,))
        self.assertEqual(early_run(system=SYSTEM, run=()), ())
        self.assertIs(is_early(system=SYSTEM, run=()), True)


if __name__ == '__main__':
    unittest.main()

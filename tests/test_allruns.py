"""[28]: all runs of one length."""

import inspect
import itertools
import unittest

from forkyields.allruns import runs_of
from tests.model import Model
from tests.samples import BUSY, LIB, SYSTEM, SYSTEMS, odd_values, not_usable, random_systems, refusal


def found(system, length):
    """All runs of this length, from the model, in any order."""
    runs = [()]
    for _ in range(length):
        longer = []
        for run in runs:
            model = Model(system)
            for step in run:
                model.do(step)
            longer += [(*run, step) for step in model.steps()]
        runs = longer
    return runs


class AllRunsTest(unittest.TestCase):
    def test_all(self):
        for system in list(SYSTEMS) + random_systems(28, 40):
            for length in range(6):
                right = found(system, length)
                if len(right) > 3000:
                    break
                told = list(runs_of(system, length))
                self.assertEqual(told, sorted(set(right)))
                self.assertEqual(len(told), len(right))

    def test_seven(self):
        self.assertEqual(list(runs_of(SYSTEM, 7)), sorted(found(SYSTEM, 7)))
        self.assertEqual(len(list(itertools.islice(runs_of(BUSY, 7), 2000))), 2000)

    def test_few(self):
        self.assertEqual(list(runs_of(system=SYSTEM, length=0)), [()])
        self.assertEqual(list(runs_of((LIB,), 1)), [((0, 'exit', -1),)])
        self.assertEqual(list(runs_of((LIB,), 2)), [])
        self.assertTrue(inspect.isgenerator(runs_of(SYSTEM, 3)))

    def test_refusals(self):
        for wrong in odd_values() + [(), SYSTEM[:2]]:
            told = runs_of(wrong, None)
            self.assertEqual(refusal(next, told), not_usable('system'))
        for wrong in odd_values() + ['a', (), (1,)]:
            told = runs_of(SYSTEM, wrong)
            self.assertEqual(refusal(next, told), not_usable('length'))


if __name__ == '__main__':
    unittest.main()

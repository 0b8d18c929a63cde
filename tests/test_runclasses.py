"""[30], [31]: runs as objects."""

import random
import unittest

from forkyields.errors import ForkError
from forkyields.kinds import is_step
from forkyields.numberclasses import Numbers
from forkyields.runclasses import Driver, Run
from forkyields.runreadings import read_run
from forkyields.runs import lets_run
from forkyields.runtexts import run_text
from forkyields.systemclasses import System
from forkyields.trees import next_steps, tree_after
from tests.model import model_behind
from tests.samples import (
    BUSY, KEEPER, LIB, RUN, SYSTEM, SYSTEMS, WORK, Odd, not_usable, odd_values, refusal, same)
from tests.test_trees import runs as random_runs

NO_STEPS = [(0, 'exit', -1), (1, 'fork', -1), (0, 'go', 1), (0, 'take', 1), (0, 'none', -1), (9, 'exit', -1),
            [0, 'fork', -1], (False, 'fork', -1), (0, 'fork', True), (0, 'fork'), (0, 'fork', -1, -1), ((0, 'fork', -1),)]
AT_WAIT = [(0, 'take', 1), (0, 'take', 2), (0, 'none', -1), (0, 'fork', -1), (3, 'exit', -1), (2, 'exit', -1)]


def wrong_next(possible):
    """Values of every kind that are no step of those that are possible."""
    return [thing for thing in NO_STEPS if not is_step(thing) or thing not in possible] + odd_values()


class Other:
    """An object with the attributes of a Run."""
    run_now = RUN
    tree_now = ()
    _system = SYSTEM
    _steps = RUN
    _world = ()


class Derived(Run):
    pass


class RunTest(unittest.TestCase):
    def test_properties(self):
        for system, steps in random_runs(301, 30, 30):
            run = Run(system, steps)
            self.assertTrue(same(run.run_now, steps))
            self.assertTrue(same(run.tree_now, tree_after(system, steps)))
            self.assertEqual(Run(system=system, steps=steps), run)
            for name in ('run_now', 'tree_now'):
                with self.assertRaises(AttributeError):
                    setattr(run, name, ())
        self.assertEqual(Run(SYSTEM).run_now, ())

    def test_made(self):
        for wrong in odd_values() + [(), SYSTEM[:2]]:
            self.assertEqual(refusal(Run, wrong, None), not_usable('system'))
            self.assertEqual(refusal(Run, wrong), not_usable('system'))
        for wrong in odd_values() + [list(RUN), 0, 'a', Run(SYSTEM)]:
            if not isinstance(wrong, tuple):
                self.assertEqual(refusal(Run, SYSTEM, wrong), not_usable('steps'))
        for wrong in NO_STEPS:
            self.assertEqual(refusal(Run, SYSTEM, (wrong,)), not_usable('steps', 0))
            self.assertEqual(refusal(Run, SYSTEM, (wrong, None)), not_usable('steps', 0))

    def test_a_first_step_that_is_refused(self):
        for system, steps in random_runs(302, 20, 12):
            for k in range(len(steps) + 1):
                for wrong in (None, (0, 'nosuch', -1), (99, 'exit', -1), [0, 'exit', -1]):
                    told = steps[:k] + (wrong,) + steps[k:]
                    self.assertEqual(refusal(lets_run, system, told)[1]['at'], k)
                    self.assertEqual(refusal(Run, system, told), not_usable('steps', k))
        for wrong in AT_WAIT:
            self.assertEqual(refusal(Run, SYSTEM, RUN[:2] + (wrong,)), not_usable('steps', 2))

    def test_sum(self):
        for system, steps in random_runs(303, 30, 20):
            run = Run(system)
            for k, step in enumerate(steps):
                longer = run + step
                self.assertIs(type(longer), Run)
                self.assertEqual((run.run_now, longer.run_now), (steps[:k], steps[:k + 1]))
                run = longer
            self.assertEqual(run, Run(system, steps))
            possible = next_steps(system, steps)
            for step in possible:
                self.assertEqual((run + step).run_now, (*steps, step))
            for wrong in wrong_next(possible):
                self.assertEqual(refusal(lambda: run + wrong), not_usable('step'))
            self.assertEqual(run.run_now, steps)
        self.assertIs(type(Derived(SYSTEM) + RUN[0]), Run)

    def test_items(self):
        for system, steps in random_runs(304, 20, 15):
            run = Run(system, steps)
            for k, step in enumerate(steps):
                self.assertTrue(same(run[k], step))
            for wrong in odd_values() + [len(steps), len(steps) + 1, -1, -len(steps), 10 ** 59, slice(0, 1), '0', (0,)]:
                self.assertEqual(refusal(lambda: run[wrong]), not_usable('index'))
            self.assertEqual(len(run), len(steps))
            self.assertIs(bool(run), len(steps) > 0)
            self.assertEqual(list(run), list(steps))
            self.assertEqual([step for step in run], list(steps))
        self.assertEqual(refusal(lambda: Run(SYSTEM, RUN)[True]), not_usable('index'))
        self.assertEqual(refusal(lambda: Run(SYSTEM)[0]), not_usable('index'))

    def test_members(self):
        run = Run(SYSTEM, RUN)
        for step in RUN:
            self.assertIs(step in run, True)
        for other in odd_values() + [RUN, list(RUN[0]), (False, 'fork', -1), (0, 'take', 1), (0, 'take', True), (1, 'fork', -1),
                                     Odd(), (0, 'fork', Odd()), (Odd(), 'fork', -1), 0, 3, run, 'fork']:
            self.assertIs(other in run, False)
        go = Run(BUSY, ((0, 'fork', -1), (0, 'fork', -1), (0, 'go', 0)))
        self.assertIs((0, 'go', False) in go, False)
        self.assertIs((0, 'go', 0) in go, True)

    def test_text(self):
        for system, steps in random_runs(305, 30, 20):
            run = Run(system, steps)
            self.assertEqual(str(run), run_text(system, steps))
            self.assertEqual(Run.read(system, str(run)), run)
            self.assertIs(type(Run.read(system=system, text=str(run))), Run)
        self.assertEqual(str(Run(SYSTEM)), '')
        for text in ('0', '0 fork\n', '\n', '0 exit', '0 fork\n0 fork\n0 take 1', 'x', '0 fork -1'):
            self.assertEqual(refusal(Run.read, SYSTEM, text), refusal(read_run, SYSTEM, text))
            self.assertIsNotNone(refusal(Run.read, SYSTEM, text))
        for wrong in odd_values():
            self.assertEqual(refusal(Run.read, wrong, ''), not_usable('system'))

    def test_equal(self):
        made = [(system, steps) for system, steps in random_runs(306, 6, 5)] + [(SYSTEM, ()), (BUSY, ()), (SYSTEM, RUN)]
        made += [((WORK, LIB), ((0, 'fork', -1),)), ((LIB, WORK[:2] + (WORK[2],))[:1], ())]
        for one in made:
            for two in made:
                first, second = Run(*one), Run(*two)
                self.assertIs(first == second, one == two)
                self.assertIs(first != second, one != two)
                inside = one[0] == two[0] and two[1][:len(one[1])] == one[1]
                self.assertIs(first <= second, inside)
                self.assertIs(second >= first, inside)

    def test_lesser(self):
        whole = Run(SYSTEM, RUN)
        for k in range(len(RUN) + 1):
            part = Run(SYSTEM, RUN[:k])
            self.assertIs(part <= whole, True)
            self.assertIs(whole >= part, True)
            self.assertIs(whole <= part, k == len(RUN))
            self.assertIs(part >= whole, k == len(RUN))
            self.assertIs(part == whole, k == len(RUN))
        other = Run(SYSTEM, ((0, 'fork', -1), (1, 'exit', -1)))
        self.assertIs(other <= whole, False)
        self.assertIs(other >= whole, False)

    def test_other_kinds(self):
        run = Run(SYSTEM, RUN)
        for other in odd_values() + [RUN, list(RUN), str(run), Other(), Driver(SYSTEM), System(SYSTEM), Numbers(), 0]:
            if isinstance(other, Odd):
                self.assertIs(run == other, False)
                continue
            self.assertIs(run == other, False)
            self.assertIs(other == run, False)
            self.assertIs(run != other, True)
            for call in (lambda: run <= other, lambda: run >= other, lambda: other <= run, lambda: other >= run):
                with self.assertRaises(TypeError):
                    call()
        self.assertIs(run == Derived(SYSTEM, RUN), True)
        self.assertIs(Derived(SYSTEM, RUN) <= run, True)

    def test_unchanged(self):
        run = Run(SYSTEM, RUN)
        for call in (lambda: run + (0, 'exit', -1), lambda: run + (1, 'exit', -1), lambda: run[9], lambda: run <= run,
                     lambda: run == 3, lambda: str(run), lambda: list(run), lambda: None in run):
            refusal(call)
            self.assertTrue(same((run.run_now, run.tree_now), (RUN, tree_after(SYSTEM, RUN))))


class DriverTest(unittest.TestCase):
    def agree(self, driver, system, steps):
        self.assertTrue(same(driver.run_now, steps))
        self.assertTrue(same(driver.tree_now, tree_after(system, steps)))
        self.assertTrue(same(driver.next_now, next_steps(system, steps)))

    def test_example(self):
        driver = Driver(SYSTEM)
        self.assertEqual(
            [driver.go(RUN[0]), driver.next_now, driver.tried((1, 'exit', -1))[1][4], driver.back(), driver.run_now],
            [0, ((0, 'fork', -1), (1, 'exit', -1)), 0, (0, 'fork', -1), ()])

    def test_system(self):
        for wrong in odd_values() + [(), SYSTEM[:2]]:
            self.assertEqual(refusal(Driver, wrong), not_usable('system'))
        self.agree(Driver(system=SYSTEM), SYSTEM, ())

    def test_steps_and_back(self):
        for system, steps in random_runs(311, 20, 20):
            driver = Driver(system)
            for k, step in enumerate(steps):
                self.agree(driver, system, steps[:k])
                if k % 3 == 0:
                    self.assertEqual(driver.go(step), k)
                elif k % 3 == 1:
                    same_one = driver
                    driver += step
                    self.assertIs(driver, same_one)
                else:
                    driver.next_now = step
            for k in range(len(steps), 0, -1):
                self.agree(driver, system, steps[:k])
                self.assertTrue(same(driver.back(), steps[k - 1]))
            self.agree(driver, system, ())
            self.assertEqual(refusal(driver.back), ('NothingToUndo', {'steps': 0}))
            self.agree(driver, system, ())

    def test_refused(self):
        for system, steps in random_runs(312, 10, 12):
            driver = Driver(system)
            for k, step in enumerate(steps):
                driver.go(step=step)
                possible = driver.next_now
                for wrong in wrong_next(possible):
                    self.assertEqual(refusal(driver.go, wrong), not_usable('step'))
                    self.assertEqual(refusal(self.add, driver, wrong), not_usable('step'))
                    self.assertEqual(refusal(self.assign, driver, wrong), not_usable('step'))
                self.agree(driver, system, steps[:k + 1])
        driver = Driver(SYSTEM)
        for name in ('run_now', 'tree_now'):
            with self.assertRaises(AttributeError):
                setattr(driver, name, ())

    def add(self, driver, step):
        driver += step

    def assign(self, driver, step):
        driver.next_now = step

    def test_tried(self):
        for system, steps in random_runs(313, 20, 12):
            driver = Driver(system)
            half = len(steps) // 2
            for step in steps[:half]:
                driver.go(step)
            for k in range(half, len(steps) + 1):
                self.assertTrue(same(driver.tried(*steps[half:k]), tree_after(system, steps[:k])))
                for wrong in (None, (99, 'exit', -1), [0, 'exit', -1], Odd()):
                    told = steps[half:k] + (wrong,) + steps[k:]
                    self.assertEqual(refusal(driver.tried, *told), not_usable('steps', k - half))
                self.agree(driver, system, steps[:half])
        self.assertEqual(refusal(Driver(SYSTEM).tried, RUN[1:], RUN[0]), not_usable('steps', 0))

    def test_trial(self):
        for system, steps in random_runs(314, 20, 12):
            driver = Driver(system)
            half = len(steps) // 2
            for step in steps[:half]:
                driver.go(step)
            with driver.trial() as held:
                self.assertIs(held, driver)
                for step in steps[half:]:
                    driver.go(step)
                self.agree(driver, system, steps)
            self.agree(driver, system, steps[:half])

    def test_back_behind_the_beginning(self):
        driver = Driver(SYSTEM)
        for step in RUN[:3]:
            driver.go(step)
        with driver.trial():
            for k in (2, 1, 0):
                self.assertEqual(driver.back(), RUN[k])
            self.assertEqual(refusal(driver.back), ('NothingToUndo', {'steps': 0}))
            driver.go(RUN[0])
            driver.go((1, 'exit', -1))
            self.agree(driver, SYSTEM, (RUN[0], (1, 'exit', -1)))
        self.agree(driver, SYSTEM, RUN[:3])
        self.assertEqual(driver.back(), RUN[2])

    def test_trial_behind_an_error(self):
        driver = Driver(SYSTEM)
        driver.go(RUN[0])
        for error in (KeyError, ValueError, ForkError, ZeroDivisionError):
            with self.assertRaises(error):
                with driver.trial():
                    driver.go(RUN[1])
                    raise error
            self.agree(driver, SYSTEM, RUN[:1])
        with self.assertRaises(ForkError):
            with driver.trial():
                driver.go(RUN[1])
                driver.go((0, 'nosuch', -1))
        self.agree(driver, SYSTEM, RUN[:1])

    def test_trial_in_a_trial(self):
        driver = Driver(SYSTEM)
        driver.go(RUN[0])
        with driver.trial():
            driver.go(RUN[1])
            with driver.trial():
                driver.back()
                driver.back()
                driver.go(RUN[0])
                driver.go((1, 'exit', -1))
            self.agree(driver, SYSTEM, RUN[:2])
            self.assertEqual(driver.tried(RUN[2]), tree_after(SYSTEM, RUN[:3]))
            driver.go(RUN[2])
            with self.assertRaises(KeyError):
                with driver.trial():
                    driver.back()
                    raise KeyError
            self.agree(driver, SYSTEM, RUN[:3])
        self.agree(driver, SYSTEM, RUN[:1])

    def test_trial_begins_with_its_call(self):
        driver = Driver(SYSTEM)
        trial = driver.trial()
        driver.go(RUN[0])
        with trial as held:
            self.assertIs(held, driver)
            driver.go(RUN[1])
        self.agree(driver, SYSTEM, ())

    def test_two_drivers(self):
        one, two = Driver(KEEPER), Driver(KEEPER)
        one.go((0, 'fork', -1))
        self.agree(two, KEEPER, ())
        self.agree(one, KEEPER, ((0, 'fork', -1),))

    def test_against_the_model(self):
        for system in SYSTEMS:
            driver = Driver(system)
            rng = random.Random(315)
            for _ in range(25):
                if not driver.next_now:
                    break
                driver.go(rng.choice(driver.next_now))
                self.assertEqual(driver.next_now, tuple(model_behind(system, driver.run_now).steps()))


if __name__ == '__main__':
    unittest.main()

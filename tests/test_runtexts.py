"""[29]: steps and runs as texts."""

import unittest

from forkyields.kinds import is_step
from forkyields.runreadings import read_run, read_step
from forkyields.runs import is_run
from forkyields.runtexts import run_text, step_text
from tests.samples import BUSY, RUN, SYSTEM, SYSTEMS, not_usable, odd_values, refusal, same, spoiled
from tests.test_trees import runs as random_runs


class RunTextsTest(unittest.TestCase):
    def test_steps(self):
        for word in ('go', 'take'):
            for process in (0, 7, 10, 123456789, 10 ** 59, 10 ** 60 - 1):
                for number in (0, 3, 10, 999, 10 ** 59, 10 ** 60 - 1):
                    step = (process, word, number)
                    self.assertEqual(step_text(step), f'{process} {word} {number}')
                    self.assertTrue(same(read_step(step_text(step=step)), step))
        for word in ('fork', 'none', 'later', 'kill', 'release', 'exit'):
            for process in (0, 9, 10, 10 ** 60 - 1):
                self.assertEqual(step_text((process, word, -1)), f'{process} {word}')
                self.assertTrue(same(read_step(step_text((process, word, -1))), (process, word, -1)))

    def test_numbers_of_each_length(self):
        for many in range(1, 61):
            for number in (10 ** (many - 1), 10 ** many - 1, int('7' * many)):
                for step in ((number, 'go', 3), (0, 'take', number), (number, 'take', number), (number, 'exit', -1)):
                    self.assertEqual(step_text(step).split(' '), [str(part) for part in step if part != -1])
                    self.assertTrue(same(read_step(step_text(step)), step))

    def test_no_steps(self):
        for wrong in odd_values() + list(spoiled((0, 'go', 1))) + list(spoiled((3, 'exit', -1))):
            if not is_step(wrong):
                self.assertEqual(refusal(step_text, wrong), not_usable('step'))
        for wrong in ((0, 'go', -1), (0, 'fork', 0), (True, 'go', 1), (0, 'go', True), (0, 'wait', -1), (-1, 'exit', -1)):
            self.assertEqual(refusal(step_text, step=wrong), not_usable('step'))

    def test_runs(self):
        self.assertEqual(run_text(SYSTEM, RUN[:2]), '0 fork\n0 fork')
        words = set()
        for system, run in random_runs(291, 60, 40):
            text = run_text(system=system, run=run)
            self.assertIs(type(text), str)
            self.assertEqual(text.split('\n') if run else [], [step_text(step) for step in run])
            self.assertTrue(same(read_run(system, text), run))
            words |= {step[1] for step in run}
        self.assertEqual(len(words), 8)
        for system in SYSTEMS:
            self.assertEqual(run_text(system, ()), '')
            self.assertEqual(read_run(system, ''), ())

    def test_refused(self):
        for wrong in odd_values() + [(), SYSTEM[:2]]:
            self.assertEqual(refusal(run_text, wrong, None), not_usable('system'))
        for wrong in odd_values() + [RUN[1:], list(RUN), RUN + RUN, RUN[::-1], 'a', 0]:
            if not is_run(SYSTEM, wrong):
                self.assertEqual(refusal(run_text, SYSTEM, wrong), not_usable('run'))
        self.assertEqual(refusal(run_text, BUSY, RUN), not_usable('run'))


if __name__ == '__main__':
    unittest.main()

"""[29]: steps and runs from texts."""

import random
import unittest

from forkyields.runreadings import read_run, read_step
from forkyields.runs import lets_run
from tests.samples import RUN, SYSTEM, not_usable, odd_values, refusal, same
from tests.test_trees import runs as random_runs
from tests.wordgrammar import mangled, wrong_step


def line(step):
    return ' '.join(str(part) for part in step if part != -1)


def written(run):
    return '\n'.join(map(line, run))


def invalid(at, field):
    return ('InvalidText', {'line': at, 'field': field})


class RunReadingsTest(unittest.TestCase):
    def test_steps(self):
        for step in RUN + ((0, 'go', 0), (12, 'go', 10 ** 59), (1, 'none', -1), (10 ** 60 - 1, 'later', -1),
                           (3, 'kill', -1), (0, 'release', -1), (0, 'take', 0)):
            self.assertTrue(same(read_step(line(step)), step))
            self.assertEqual(read_step(text=line(step)), step)

    def test_no_steps(self):
        for text in ('', ' ', '\n', '0', '0 ', ' 0 fork', '0  fork', '0 fork ', '0 fork -1', '0 fork 1', '0 go', '0 go ',
                     '0 go 1 1', '0 take', '0 take -1', '0 take 01', '00 fork', '01 fork', '-1 fork', 'a fork', '0 nosuch',
                     '0 Fork', '0 fork\n', '0 fork\n0 fork', '\n0 fork', 'fork 0', '1' * 61 + ' fork', '0 go ' + '1' * 61,
                     '0 go +1', '0 wait', '0 poll', '0\tfork', '0 go 1\n'):
            self.assertEqual(refusal(read_step, text), ('InvalidRow', {'row': text}))

    def test_mangled_steps(self):
        rng = random.Random(29)
        for _ in range(3000):
            text = mangled(rng, rng.choice(['0 fork', '12 go 3', '0 take 4', '1 none', '7 later', '0 kill', '9 exit']))
            if '\n' in text or wrong_step(text.split(' ')) is not None:
                self.assertEqual(refusal(read_step, text), ('InvalidRow', {'row': text}))
            else:
                self.assertEqual(line(read_step(text)), text)

    def test_runs(self):
        self.assertEqual(read_run(SYSTEM, ''), ())
        self.assertEqual(read_run(system=SYSTEM, text='0 fork\n0 fork'), RUN[:2])
        for system, run in random_runs(29, 30, 30):
            self.assertTrue(same(read_run(system, written(run)), run))

    def test_no_runs(self):
        text = written(RUN)
        for wrong, at, field in (
                ('\n', 0, 0), ('0 fork\n', 1, 0), ('\n0 fork', 0, 0), ('0 fork\n\n0 fork', 1, 0), (text + '\n', 6, 0),
                ('0', 0, 1), ('0 fork\n0 fork 0', 1, 2), ('0 fork\n0', 1, 1), ('0 take', 0, 2), ('0 fork\n0 go', 1, 2),
                ('0 fork ', 0, 2), (' 0 fork', 0, 0), ('0  fork', 0, 1), ('0 go ' + '1' * 61, 0, 2),
                ('0 take ' + '1' * 60, 0, 0), ('1' * 60 + ' fork', 0, 0), ('1' * 61 + ' fork', 0, 0),
                ('0 fork\n00 fork', 1, 0), ('0 fork\n0 take 00', 1, 2), ('0 exit', 0, 0), ('0 fork\n1 fork', 1, 0),
                ('0 fork\n0 fork\n0 take 1', 2, 0), ('0 exit\n0 nosuch', 1, 1), ('x', 0, 0)):
            self.assertEqual(refusal(read_run, SYSTEM, wrong), invalid(at, field), wrong)

    def test_mangled_runs(self):
        rng = random.Random(30)
        met = set()
        for system, run in random_runs(31, 60, 12) * 6:
            text = mangled(rng, written(run))
            wrongs = [(k, wrong_step(row.split(' '))) for k, row in enumerate(text.split('\n'))] if text else []
            wrongs = [(k, field) for k, field in wrongs if field is not None]
            if wrongs:
                self.assertEqual(refusal(read_run, system, text), invalid(*wrongs[0]))
                met.add('line')
                continue
            told = tuple(read_step(row) for row in text.split('\n')) if text else ()
            refused = refusal(lets_run, system, told)
            if refused is None:
                self.assertTrue(same(read_run(system, text), told))
                met.add('run')
            else:
                self.assertEqual(refusal(read_run, system, text), invalid(refused[1]['at'], 0))
                met.add('step')
        self.assertEqual(met, {'line', 'run', 'step'})

    def test_no_system(self):
        for wrong in odd_values() + [(), SYSTEM[:2], SYSTEM[0]]:
            self.assertEqual(refusal(read_run, wrong, 'nosuch'), not_usable('system'))


if __name__ == '__main__':
    unittest.main()

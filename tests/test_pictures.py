"""The part "picture" behind [29]."""

import unittest

from forkyields.pictures import picture
from forkyields.runs import is_run
from forkyields.trees import tree_after
from tests.model import model_behind
from tests.samples import LIB, RUN, SYSTEM, SYSTEMS, not_usable, odd_values, refusal
from tests.test_trees import runs as random_runs


def line(process):
    end = f'at {process.place}' if process.code == -1 else f'code {process.code}'
    return f'{str(process.number).rjust(3)} {process.kind.ljust(8)} {str(process.parent).rjust(3)} {end}'


class PictureTest(unittest.TestCase):
    def test_example(self):
        self.assertEqual(picture(SYSTEM, RUN), ['  0 main      -1 at 4', '  1 lib        0 at 0', '  2 work       0 code 0'])

    def test_runs(self):
        gone = outside = False
        for system, run in random_runs(292, 40, 50):
            model = model_behind(system, run)
            told = picture(system=system, run=run)
            self.assertIs(type(told), list)
            self.assertEqual(told, [line(process) for process in model.there()])
            gone = gone or any(process.gone for process in model.all)
            outside = outside or any(process.parent == -1 and process.number for process in model.there())
        self.assertTrue(gone and outside)

    def test_first_moment(self):
        for system in SYSTEMS:
            self.assertEqual(picture(system, ()), [f'  0 {system[0][0]:<8}  -1 at 0'])

    def test_ended_and_outside(self):
        run = RUN + ((1, 'exit', -1), (0, 'take', 1), (0, 'exit', -1))
        self.assertEqual(picture(SYSTEM, run), ['  0 main      -1 code 0', '  2 work      -1 code 0'])

    def test_names_and_numbers_of_each_length(self):
        for many in range(1, 9):
            name = 'abcdefgh'[:many]
            system = (('z', (), (('fork', name, 't', '', 1), ('exit', 1))), (name, (), (('exit', 0),)))
            self.assertEqual(picture(system, ((0, 'fork', -1),)), ['  0 z         -1 at 1', f'  1 {name:<8}   0 at 0'])

    def test_many_processes(self):
        loop = (('loop', (), (('fork', 'chain', 't', '', 0),)), ('chain', (), (('fork', 'lib', 'm', '', 1), ('exit', 0))), LIB)
        run = ((0, 'fork', -1),) * 1000 + ((1000, 'fork', -1), (7, 'fork', -1))
        told = picture(loop, run)
        self.assertEqual(told[0], '  0 loop      -1 at 0')
        self.assertEqual(told[9:11], ['  9 chain      0 at 0', ' 10 chain      0 at 0'])
        self.assertEqual(told[99:101], [' 99 chain      0 at 0', '100 chain      0 at 0'])
        self.assertEqual(told[1000:], ['1000 chain      0 at 1', '1001 lib      1000 at 0', '1002 lib        7 at 0'])

    def test_places_of_two_digits(self):
        system = (('z', (), tuple(('go', (p + 1,)) for p in range(12)) + (('exit', 1),)),)
        run = tuple((0, 'go', p + 1) for p in range(12))
        for many in range(13):
            self.assertEqual(picture(system, run[:many]), [f'  0 z         -1 at {many}'])
        self.assertEqual(picture(system, run + ((0, 'exit', -1),)), ['  0 z         -1 code 1'])

    def test_new_each_time(self):
        told = picture(SYSTEM, RUN)
        told.append('more')
        self.assertEqual(len(picture(SYSTEM, RUN)), len(tree_after(SYSTEM, RUN)))

    def test_refused(self):
        for wrong in odd_values() + [(), SYSTEM[:2]]:
            self.assertEqual(refusal(picture, wrong, None), not_usable('system'))
        for wrong in odd_values() + [RUN[1:], list(RUN), 0]:
            if not is_run(SYSTEM, wrong):
                self.assertEqual(refusal(picture, SYSTEM, wrong), not_usable('run'))


if __name__ == '__main__':
    unittest.main()

"""[12]: the check of whole systems."""

import random
import unittest

from forkyields.kinds import is_system
from forkyields.systemchecker import lets_system
from tests.grammar import faults
from tests.samples import BUSY, LIB, MAIN, SYSTEM, SYSTEMS, WORK, odd_values, random_system, refusal, spoiled


def paper(word, at):
    return ('InvalidPaper', {'word': word, 'at': at})


class SystemCheckerTest(unittest.TestCase):
    def agree(self, thing):
        found = faults(thing)
        self.assertEqual(refusal(lets_system, thing), paper(*found[0]) if found else None, thing)
        self.assertIs(is_system(thing), not found)

    def test_places(self):
        self.assertEqual([lets_system(system) for system in SYSTEMS], [10, 21, 7, 1, 3])
        self.assertIs(type(lets_system(thing=SYSTEM)), int)

    def test_shape(self):
        for thing in odd_values() + [(), (()), ((),), list(SYSTEM), (list(MAIN),), (MAIN[:2],), ((*MAIN, 1),),
                                     (('a', (), []),), (('a', [], LIB[2]),), (('', (), LIB[2]),), (('a', (), ()),),
                                     (('a', ('b', 'a'), LIB[2]),), (LIB, None), MAIN]:
            self.assertEqual(refusal(lets_system, thing), paper('shape', -1))

    def test_each_word(self):
        self.assertEqual(refusal(lets_system, (WORK, LIB, LIB)), paper('twice', 2))
        self.assertEqual(refusal(lets_system, (LIB, LIB, LIB)), paper('twice', 1))
        for k in range(3):
            kind = ('a', (), LIB[2] * k + (None,) + LIB[2])
            self.assertEqual(refusal(lets_system, (LIB, kind)), paper('instruction', (1, k)))
            kind = ('a', (), LIB[2] * k + (('go', (0, k + 2)),) + LIB[2])
            self.assertEqual(refusal(lets_system, (LIB, kind)), paper('target', (1, k)))
            kind = ('a', ('s',), LIB[2] * k + (('kill', 't', 0),) + LIB[2])
            self.assertEqual(refusal(lets_system, (LIB, kind)), paper('slot', (1, k)))
            kind = ('a', (), LIB[2] * k + (('fork', 'lib', 't', '', 0),) + LIB[2])
            self.assertEqual(refusal(lets_system, (LIB, kind)), paper('layer', (1, k)))

    def test_layers(self):
        for name in ('lib', 'work', 'none'):
            self.assertEqual(refusal(lets_system, (LIB, ('work', (), (('fork', name, 't', '', 0),)))),
                             paper('layer', (1, 0)))
        self.assertEqual(lets_system((('work', (), (('fork', 'lib', 't', '', 0),)), LIB)), 2)

    def test_each_target(self):
        for instruction in BUSY[0][2] + BUSY[1][2]:
            for wrong in spoiled(instruction):
                self.agree((('a', ('a', 'b', 'h'), (wrong,) + LIB[2] * 9), ('mid', (), LIB[2]), ('low', (), LIB[2])))

    def test_several_faults(self):
        bad = {
            'instruction': ('exit', 2), 'target': ('go', (9,)), 'slot': ('release', 'none', 0),
            'layer': ('fork', 'first', 't', '', 0), 'all': ('fork', 'first', 't', 'none', 9),
        }
        rng = random.Random(12)
        for _ in range(2000):
            rows = [[rng.choice([*bad.values()] + [('exit', 0)] * 4) for _ in range(2)] for _ in range(3)]
            names = rng.choice([('first', 'second', 'third')] * 3 + [('first', 'third', 'first')])
            self.agree(tuple((name, (), tuple(row)) for name, row in zip(names, rows)))

    def test_random_systems(self):
        rng = random.Random(1)
        for _ in range(300):
            system = random_system(rng)
            self.assertEqual(lets_system(system), sum(len(kind[2]) for kind in system))

    def test_wrong_in_one_place(self):
        for wrong in spoiled((MAIN, LIB, WORK[:1] + ((), (('exit', 1),)))):
            self.agree(wrong)


if __name__ == '__main__':
    unittest.main()

"""[18]: systems and instructions as texts."""

import unittest

from forkyields.kinds import is_instruction
from forkyields.systemtexts import instruction_text, system_text
from tests.samples import (
    BUSY, LIB, MAIN, SYSTEM, SYSTEMS, not_usable, numbers_and_names, odd_values, random_systems, refusal, spoiled)

LINES = (
    (('go', (0,)), 'go 0'), (('go', (0, 3, 10)), 'go 0,3,10'),
    (('fork', 'lib', 'l', 'h', 1), 'fork lib l h 1'), (('fork', 'work', 'm', '', 2), 'fork work m - 2'),
    (('wait', (), 6, 5, ('m',)), 'wait - 6 5 m'), (('wait', (), 0, 0, ()), 'wait - 0 0 -'),
    (('wait', (('h', 6, 7, 8),), -1, 5, ('l', 'm')), 'wait h:6:7:8 - 5 l,m'),
    (('wait', (('a', 1, 2, 3), ('b', 10, 0, 0)), 4, 5, ()), 'wait a:1:2:3,b:10:0:0 4 5 -'),
    (('poll', (), 1, 2, 3, ('a', 'b')), 'poll - 1 2 3 a,b'),
    (('poll', (('a', 1, 2, 3),), -1, 2, 3, ()), 'poll a:1:2:3 - 2 3 -'),
    (('kill', 'a', 3), 'kill a 3'), (('release', 'kind', 12), 'release kind 12'),
    (('exit', 0), 'exit 0'), (('exit', 1), 'exit 1'), (('go', (10 ** 59,)), 'go 1' + '0' * 59),
)


class SystemTextsTest(unittest.TestCase):
    def test_examples(self):
        self.assertEqual([instruction_text(MAIN[2][0]), instruction_text(MAIN[2][2])],
                         ['fork lib l h 1', 'wait h:3:3:3 4 5 m'])

    def test_lines(self):
        for instruction, line in LINES:
            self.assertEqual(instruction_text(instruction), line)
            self.assertEqual(instruction_text(instruction=instruction), line)

    def test_systems(self):
        self.assertEqual(system_text((LIB,)), 'kind lib -\nexit 0')
        self.assertEqual(system_text(system=SYSTEM), '\n'.join((
            'kind main h', 'fork lib l h 1', 'fork work m - 2', 'wait h:3:3:3 4 5 m', 'wait - 6 5 m',
            'wait h:6:6:6 - 5 l', 'exit 1', 'exit 0', 'kind work -', 'fork lib x - 1', 'exit 0', 'kind lib -',
            'exit 0')))
        self.assertEqual(system_text(BUSY).split('\n')[0], 'kind top a,b')

    def test_lines_of_systems(self):
        for system in list(SYSTEMS) + random_systems(18, 60):
            right = []
            for name, slots, places in system:
                right.append(' '.join(('kind', name, ','.join(slots) or '-')))
                right += map(instruction_text, places)
            self.assertEqual(system_text(system), '\n'.join(right))

    def test_no_instruction(self):
        for wrong in odd_values() + numbers_and_names() + ['exit 0', LIB, SYSTEM]:
            self.assertEqual(refusal(instruction_text, wrong), not_usable('instruction'))
        for instruction, _ in LINES[2:12]:
            for wrong in spoiled(instruction):
                if not is_instruction(wrong):
                    self.assertEqual(refusal(instruction_text, wrong), not_usable('instruction'))

    def test_no_system(self):
        for wrong in odd_values() + numbers_and_names() + [LIB, SYSTEM[:2], SYSTEM[::-1], list(SYSTEM), 'kind a -']:
            self.assertEqual(refusal(system_text, wrong), not_usable('system'))


if __name__ == '__main__':
    unittest.main()

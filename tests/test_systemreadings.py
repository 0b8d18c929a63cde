"""[19]: instructions and systems from texts."""

import random
import unittest

from forkyields.errors import InvalidRow, InvalidText
from forkyields.systemreadings import read_instruction, read_system
from forkyields.systemtexts import instruction_text, system_text
from tests.grammar import faults
from tests.samples import BUSY, LIB, SYSTEM, SYSTEMS, random_systems, refusal, same
from tests.test_systemtexts import LINES
from tests.wordgrammar import first_wrong, mangled, wrong_line

ALL = list(SYSTEMS) + random_systems(19, 60)


def invalid(line, field):
    return ('InvalidText', {'line': line, 'field': field})


def loosely_read(text):
    """The kinds of a text of which all lines can stand."""
    kinds = []
    for line in text.split('\n'):
        word, *words = line.split(' ')
        if word == 'kind':
            kinds.append((words[0], () if words[1] == '-' else tuple(words[1].split(',')), []))
        else:
            kinds[-1][2].append(read_instruction(line))
    return tuple((name, slots, tuple(places)) for name, slots, places in kinds)


class SystemReadingsTest(unittest.TestCase):
    def test_written_is_read(self):
        for system in ALL:
            self.assertTrue(same(read_system(system_text(system)), system))
            for kind in system:
                for place in kind[2]:
                    self.assertTrue(same(read_instruction(instruction_text(place)), place))
        for instruction, line in LINES:
            self.assertTrue(same(read_instruction(text=line), instruction))

    def agree(self, text):
        """Compare with a grammar, and check that what is read writes the same text."""
        wrong = wrong_line(text)
        if wrong is not None:
            self.assertEqual(refusal(read_system, text), invalid(*wrong), text)
            return
        kinds = loosely_read(text)
        found = faults(kinds)
        if not found:
            self.assertEqual(system_text(read_system(text)), text)
            return
        word, at = found[0]
        heads = [k for k, line in enumerate(text.split('\n')) if line.startswith('kind ')]
        line = heads[at] if word == 'twice' else heads[at[0]] + 1 + at[1]
        self.assertEqual(refusal(read_system, text), invalid(line, 0), text)

    def test_mangled_systems(self):
        rng = random.Random(19)
        for _ in range(6000):
            self.agree(mangled(rng, system_text(rng.choice(ALL))))

    def test_mangled_instructions(self):
        rng = random.Random(20)
        lines = [instruction_text(place) for system in ALL for kind in system for place in kind[2]]
        for _ in range(4000):
            text = mangled(rng, rng.choice(lines))
            if '\n' in text or text.startswith('kind') or first_wrong(text.split(' ')) is not None:
                self.assertEqual(refusal(read_instruction, text), ('InvalidRow', {'row': text}))
            else:
                self.assertEqual(instruction_text(read_instruction(text)), text)

    def test_instructions_that_are_none(self):
        for text in ('', ' ', '\n', 'exit', 'exit 2', 'exit 00', 'exit 0 ', ' exit 0', 'exit  0', 'exit 0\n', 'exit\n0',
                     'exit 0 0', 'kind a -', 'kind', 'go -', 'go 1,0', 'go 0,0', 'go ,', 'go 0,', 'go 01', 'go -1',
                     'go 1' + '0' * 60, 'wait - - 0 -', 'wait - 0 0', 'wait - 0 0 - -', 'poll - - 0 0 -', 'Exit 0',
                     'wait a:0:0:0 -1 0 -', 'wait b:0:0:0,a:0:0:0 0 0 -', 'wait a:0:0:0,a:0:0:0 0 0 -',
                     'wait a:0:0 0 0 -', 'wait a:0:0:0:0 0 0 -', 'wait :0:0:0 0 0 -', 'wait  0 0 -', 'wait - 0 0 b,a',
                     'wait - 0 0 a,a', 'wait - 0 0 a,-', 'fork a b  0', 'fork a b c', 'fork a b c 0 0', 'fork - b c 0',
                     'fork a - c 0', 'kill - 0', 'release - 0', 'fork aaaaaaaaa b - 0', 'nosuch'):
            self.assertEqual(refusal(read_instruction, text), ('InvalidRow', {'row': text}), text)

    def test_long_numbers(self):
        great = '9' * 60
        self.assertEqual(read_instruction('go ' + great), ('go', (10 ** 60 - 1,)))
        self.assertEqual(read_instruction('wait - 0 ' + great + ' -'), ('wait', (), 0, 10 ** 60 - 1, ()))
        self.assertEqual(refusal(read_system, 'kind a -\ngo ' + great), invalid(1, 0))
        self.assertEqual(refusal(read_system, 'kind a -\ngo ' + great + '9'), invalid(1, 1))
        self.assertEqual(refusal(read_system, 'kind a -\ngo 00'), invalid(1, 1))
        self.assertEqual(read_system('kind a -\ngo 0'), (('a', (), (('go', (0,)),)),))

    def test_kind_lines(self):
        for text, line, field in (
                ('', 0, 0), ('exit 0', 0, 0), ('kind', 0, 1), ('kind a', 0, 2), ('kind a -', 1, 0), ('kind a - -', 0, 3),
                ('kind A -', 0, 1), ('kind a b,a', 0, 2), ('kind a ', 0, 2), (' kind a -', 0, 0),
                ('kind a -\nkind b -', 1, 0), ('kind a -\nkind b -\nexit 0', 1, 0), ('kind a -\nexit 0\nkind b -', 3, 0),
                ('kind a -\nexit 0\nkind b', 2, 2), ('kind a -\nkind', 1, 0), ('kind a -\n', 1, 0),
                ('kind a -\nexit 0\n', 2, 0), ('\nkind a -\nexit 0', 0, 0), ('kind a -\n\nexit 0', 1, 0),
                ('kind a -\nexit kind', 1, 1), ('kind a -\nexit 0 ', 1, 2), ('kind a -\nexit', 1, 1),
                ('kind a -\nfork b t -', 1, 4), ('kind a -\nfork', 1, 1)):
            self.assertEqual(refusal(read_system, text), invalid(line, field), text)
        self.assertEqual(read_system(text='kind kind kind\nkill kind 0'), (('kind', ('kind',), (('kill', 'kind', 0),)),))

    def test_pool_without_a_row(self):
        self.assertEqual(refusal(read_system, 'kind a s\nwait - - 0 -'), invalid(1, 2))
        self.assertEqual(refusal(read_system, 'kind a s\npoll - - 0 0 -'), invalid(1, 2))
        self.assertEqual(read_system('kind a s\nwait s:0:0:0 - 0 -')[0][2][0][2], -1)

    def test_lines_that_write_no_system(self):
        for text, line in (
                ('kind a -\nexit 0\nexit 1\nkind a -\nexit 0', 3), ('kind a -\nexit 0\ngo 2\nexit 0\nexit 1\ngo 6', 5),
                ('kind a s\nexit 0\nkill t 0', 2), ('kind a -\nexit 0\nkind b -\nfork a t - 0', 3),
                ('kind a -\nfork b t s 7\nkind b -\ngo 1', 1), ('kind a -\nfork c t - 0\nkind b -\ngo 1', 3),
                ('kind a -\ngo 9\nkind b -\nexit 0\nkind a -\nexit 0\nkind b -\nexit 0', 4),
                ('kind a -\nfork a t - 0', 1), ('kind a -\nfork b t - 0', 1)):
            self.assertEqual(refusal(read_system, text), invalid(line, 0), text)

    def test_other_whitespace(self):
        text = system_text(SYSTEM)
        for k, sign in enumerate(text):
            for blank in (' ', '\n', '  ', sign + ' ', sign + '\n'):
                self.agree(text[:k] + blank + text[k + 1:])
        self.assertTrue(issubclass(InvalidText, ValueError) and issubclass(InvalidRow, ValueError))
        self.assertEqual(read_system(system_text(BUSY)), BUSY)
        self.assertEqual(read_system('kind lib -\nexit 0'), (LIB,))


if __name__ == '__main__':
    unittest.main()

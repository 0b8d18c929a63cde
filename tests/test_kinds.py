"""[2], [3], [11]: the functions that tell by form what any value is."""

import unittest

from forkyields import kinds
from tests import grammar
from tests.samples import BUSY, SYSTEMS, MAIN, RUN, numbers_and_names, odd_values, spoiled

INSTRUCTIONS = sorted({place for system in SYSTEMS for kind in system for place in kind[2]}, key=repr) + [
    ('wait', (), 0, 0, ()), ('wait', (('a', 0, 1, 2),), -1, 3, ()), ('go', (0, 10 ** 59)), ('exit', 0),
    ('fork', 'abcdefgh', 'z', '', 10 ** 59), ('poll', (('a', 0, 1, 2), ('b', 1, 1, 1)), -1, 0, 0, ('a', 'b'))]
STATES = [(0, ()), (3, ((),)), (10 ** 59, ((1, -1), (), (2, 2))), (1, ((0, 0), (0, 1)))]
STEPS = [*RUN, (0, 'go', 5), (3, 'none', -1), (10 ** 59, 'later', -1), (0, 'kill', -1), (1, 'release', -1)]
TESTED = {
    'is_integer': lambda thing: type(thing) is int,
    'is_number': lambda thing: type(thing) is int and thing >= 0,
    'is_name': lambda thing: grammar.fits(grammar.NAME, thing),
    'is_name_set': grammar.name_set_fits,
    'is_instruction': grammar.instruction_fits,
    'is_kind': grammar.kind_fits,
    'is_system': lambda thing: not grammar.faults(thing),
    'is_step': lambda thing: grammar.fits(grammar.STEP, thing),
    'is_state': lambda thing: grammar.fits(grammar.STATE, thing),
}


class KindsTest(unittest.TestCase):
    def agree(self, thing, names=tuple(TESTED)):
        for name in names:
            told = getattr(kinds, name)(thing)
            self.assertIs(told, TESTED[name](thing), (name, thing))
            self.assertIs(getattr(kinds, name)(thing=thing), told)

    def test_any_values(self):
        for thing in odd_values() + numbers_and_names():
            self.agree(thing)
            self.agree((thing,))
            self.agree([thing])
            self.agree((thing, thing, thing))

    def test_right_ones(self):
        for name, things in (('is_instruction', INSTRUCTIONS), ('is_state', STATES), ('is_step', STEPS),
                             ('is_kind', [kind for system in SYSTEMS for kind in system]), ('is_system', SYSTEMS)):
            for thing in things:
                self.assertIs(getattr(kinds, name)(thing), True, thing)
                self.agree(thing)

    def test_wrong_in_one_place(self):
        for thing in INSTRUCTIONS:
            for wrong in spoiled(thing):
                self.agree(wrong, ('is_instruction',))
        for thing in STATES:
            for wrong in spoiled(thing):
                self.agree(wrong, ('is_state',))
        for thing in STEPS:
            for wrong in spoiled(thing):
                self.agree(wrong, ('is_step',))
        for wrong in spoiled(BUSY[1]):
            self.agree(wrong, ('is_kind',))
        for wrong in spoiled(('a', 'abc', 'b')):
            self.agree(wrong, ('is_name_set',))

    def test_true_is_not_one(self):
        self.assertFalse(kinds.is_integer(True) or kinds.is_number(False))
        self.assertFalse(kinds.is_instruction(('exit', True)))
        self.assertFalse(kinds.is_instruction(('go', (False, 1))))
        self.assertFalse(kinds.is_step((True, 'fork', -1)))
        self.assertFalse(kinds.is_step((0, 'take', True)))
        self.assertFalse(kinds.is_state((0, ((0, True),))))
        self.assertFalse(kinds.is_state((False, ())))

    def test_names(self):
        for right in ('a', 'z', 'abcdefgh', 'kind', 'go'):
            self.assertIs(kinds.is_name(right), True)
        for wrong in ('', 'abcdefghi', 'A', 'aB', 'a1', 'a ', ' a', 'a-', 'a\n', b'a', ('a',), ['a'], 1, None):
            self.assertIs(kinds.is_name(wrong), False)

    def test_rows_and_pools(self):
        row, later = ('a', 0, 0, 0), ('b', 0, 0, 0)
        self.assertTrue(kinds.is_instruction(('wait', (row, later), -1, 0, ())))
        for rows in ((later, row), (row, row), [row], (list(row),), (('', 0, 0, 0),)):
            self.assertFalse(kinds.is_instruction(('wait', rows, 0, 0, ())), rows)
        self.assertFalse(kinds.is_instruction(('wait', (), -1, 0, ())))
        self.assertFalse(kinds.is_instruction(('poll', (), -1, 0, 0, ())))
        self.assertFalse(kinds.is_instruction(('wait', (row,), -2, 0, ())))
        self.assertFalse(kinds.is_instruction(('wait', (row,), -1, -1, ())))
        self.assertFalse(kinds.is_instruction(('kill', '', 0)))
        self.assertFalse(kinds.is_instruction(('release', '', 0)))
        self.assertTrue(kinds.is_instruction(('fork', 'a', 'b', '', 0)))

    def test_sets(self):
        for right in ((), ('a',), ('a', 'b')):
            self.assertIs(kinds.is_name_set(right), True)
        for wrong in (('b', 'a'), ('a', 'a'), ['a'], ('a', 1), (('a',),), 'a', ('',)):
            self.assertIs(kinds.is_name_set(wrong), False)
        for wrong in ((), (1, 0), (1, 1), [1], (1, True), (-1,)):
            self.assertFalse(kinds.is_instruction(('go', wrong)))

    def test_by_form_alone(self):
        far = ('kill', 'z', 10 ** 59)
        self.assertTrue(kinds.is_instruction(far))
        self.assertTrue(kinds.is_kind(('a', (), (far, ('fork', 'a', 'b', 'c', 99)))))
        self.assertFalse(kinds.is_system((('a', (), (far,)),)))
        self.assertFalse(kinds.is_kind(('a', (), ())))
        self.assertFalse(kinds.is_kind(list(MAIN)))


if __name__ == '__main__':
    unittest.main()

"""[10] and the opening rows of the interface: the errors, their families and their fields."""

import unittest

from forkyields import errors
from tests.samples import odd_values

FAMILIES = ('PaperError', 'KindError', 'YardError', 'TextError')
FIELDS = {
    'InvalidPaper': ('PaperError', ('word', 'at')),
    'NotUsable': ('KindError', ('word', 'at')),
    'InvalidEvent': ('YardError', ('event', 'reason')),
    'NothingToUndo': ('YardError', ('steps',)),
    'Broken': ('YardError', ('done',)),
    'InvalidText': ('TextError', ('line', 'field')),
    'InvalidRow': ('TextError', ('row',)),
}


class ErrorsTest(unittest.TestCase):
    def test_bases(self):
        self.assertEqual(errors.ForkError.__bases__, (ValueError,))
        for name in FAMILIES:
            self.assertEqual(getattr(errors, name).__bases__, (errors.ForkError,))
        for name, (family, _) in FIELDS.items():
            self.assertEqual(getattr(errors, name).__bases__, (getattr(errors, family),))

    def test_all_are_defined_there(self):
        own = {name for name, thing in vars(errors).items() if isinstance(thing, type)}
        self.assertEqual(own, {'ForkError', *FAMILIES, *FIELDS})

    def test_fields_by_position_and_by_name(self):
        for name, (_, fields) in FIELDS.items():
            for value in odd_values():
                values = [value] + [object()] * (len(fields) - 1)
                named = dict(zip(fields, values))
                for made in (getattr(errors, name)(*values), getattr(errors, name)(**named)):
                    self.assertEqual(list(vars(made)), list(fields))
                    for field, given in named.items():
                        self.assertIs(getattr(made, field), given)

    def test_exactly_the_fields(self):
        for name, (_, fields) in FIELDS.items():
            made = getattr(errors, name)
            for wrong in ((), (1,) * (len(fields) + 1), (1,) * (len(fields) - 1)):
                self.assertRaises(TypeError, made, *wrong)
            self.assertRaises(TypeError, made, **{field: 1 for field in (*fields, 'other')})

    def test_caught_by_family(self):
        for name, (family, fields) in FIELDS.items():
            with self.assertRaises(getattr(errors, family)):
                raise getattr(errors, name)(*fields)


if __name__ == '__main__':
    unittest.main()

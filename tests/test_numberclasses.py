"""[14]: number sets as objects."""

import unittest

from forkyields.numberclasses import Numbers
from forkyields.numbersets import all_within, first_numbers, has_number, joined_sets, moved_set
from tests.samples import not_usable, odd_values, refusal
from tests.test_numbersets import ALL, EMPTY, random_sets

TOLDS = random_sets(20, 40, most=6, periods=4) + [EMPTY, ALL, ((3,), (), 0)]


class NumbersTest(unittest.TestCase):
    def test_example(self):
        a, b = Numbers.every(2, first=1), Numbers.of(4, 0)
        self.assertEqual([str(a | b), (a + 1)[3], 3 in a - 2, b <= a, str(b - 1), bool(Numbers())],
                         ['0, 4, 1+2', 8, True, False, '3', False])

    def test_made(self):
        self.assertEqual(Numbers().told, EMPTY)
        for told in TOLDS:
            self.assertEqual(Numbers(told).told, told)
            self.assertEqual(Numbers(told=told).told, told)
        for wrong in odd_values() + [(), ((), (0,), 0), [(), (), 0], Numbers()]:
            self.assertEqual(refusal(Numbers, wrong), not_usable('told'))

    def test_told_stays(self):
        with self.assertRaises(AttributeError):
            Numbers().told = EMPTY

    def test_members(self):
        for told in TOLDS:
            numbers = Numbers(told)
            for n in range(30):
                self.assertIs(n in numbers, has_number(told, n))
            for wrong in odd_values() + ['a', (), (1,), told, numbers]:
                self.assertIs(wrong in numbers, False, wrong)

    def test_index(self):
        for told in TOLDS:
            numbers = Numbers(told)
            members = first_numbers(told, 30)
            self.assertEqual([numbers[k] for k in range(len(members))], list(members))
            wrongs = odd_values() + ['a', (), (0,), numbers, slice(0, 1)] + ([] if told[2] else [len(members), 10 ** 59])
            for wrong in wrongs:
                self.assertEqual(refusal(lambda: numbers[wrong]), not_usable('index'))
        self.assertEqual(Numbers.every(3, first=2)[10 ** 50], 2 + 3 * 10 ** 50)
        self.assertEqual(Numbers(((), (0, 4), 3))[10 ** 50], 3 * (10 ** 50 + 1) // 2)

    def test_text(self):
        for told, text in ((EMPTY, '-'), (ALL, '0+1'), (((0, 3), (5,), 1), '0, 3, 5+1'), (((7,), (), 0), '7'),
                           (((), (0, 4), 3), '0+3, 4+3')):
            self.assertEqual(str(Numbers(told)), text)

    def test_truth(self):
        for told in TOLDS:
            self.assertIs(bool(Numbers(told)), told != EMPTY)

    def test_no_iteration(self):
        for told in TOLDS:
            self.assertRaises(TypeError, iter, Numbers(told))
            self.assertRaises(TypeError, list, Numbers(told))
            with self.assertRaises(TypeError):
                for _ in Numbers(told):
                    pass
        self.assertRaises(TypeError, len, Numbers())

    def test_orders(self):
        for told in TOLDS:
            for other in TOLDS:
                a, b = Numbers(told), Numbers(other)
                self.assertIs(a <= b, all_within(told, other))
                self.assertIs(a >= b, all_within(other, told))
                self.assertIs(a == b, told == other)
                self.assertIs(a != b, told != other)
                self.assertEqual((a | b).told, joined_sets(told, other))
                self.assertIs(type(a | b), Numbers)
                self.assertEqual((a.told, b.told), (told, other))

    def test_orders_of_other_kinds(self):
        a = Numbers.of(1)
        for other in (None, 1, True, 'a', (), a.told, [1], {1}):
            self.assertIs(a == other, False)
            self.assertIs(other == a, False)
            self.assertIs(a != other, True)
            with self.assertRaises(TypeError):
                a <= other
            with self.assertRaises(TypeError):
                other >= a
            with self.assertRaises(TypeError):
                a >= other
            self.assertEqual(refusal(lambda: a | other), not_usable('other'))

    def test_moved(self):
        for told in TOLDS:
            for k in (0, 1, 2, 5, 9):
                a = Numbers(told)
                for made, by in ((a + k, k), (k + a, k), (a - k, -k)):
                    self.assertIs(type(made), Numbers)
                    self.assertEqual(made.told, moved_set(told, by))
                self.assertEqual(a.told, told)

    def test_moved_by_other_kinds(self):
        a = Numbers.every(2)
        for k in [thing for thing in odd_values() if not isinstance(thing, Numbers)] + [a, Numbers(), (1,), 'a']:
            self.assertEqual(refusal(lambda: a + k), not_usable('k'))
            self.assertEqual(refusal(lambda: a - k), not_usable('k'))
            if not hasattr(k, 'kinds_now'):
                self.assertEqual(refusal(lambda: k + a), not_usable('k'))
        with self.assertRaises(TypeError):
            3 - a

    def test_of(self):
        self.assertEqual(Numbers.of().told, EMPTY)
        self.assertEqual(Numbers.of(5, 0, 5, 3).told, ((0, 3, 5), (), 0))
        self.assertEqual(refusal(Numbers.of, 1, 2, True, -1), not_usable('members', 2))
        for wrong in odd_values():
            self.assertEqual(refusal(Numbers.of, wrong), not_usable('members', 0))
            self.assertEqual(refusal(Numbers.of, 0, 0, wrong, None), not_usable('members', 2))

    def test_every(self):
        self.assertEqual(Numbers.every(1).told, ALL)
        self.assertEqual(Numbers.every(period=4, first=9).told, ((), (9,), 4))
        for wrong in odd_values() + [0, (), 'a']:
            self.assertEqual(refusal(Numbers.every, wrong, first=None), not_usable('period'))
        for wrong in odd_values() + [(), 'a']:
            self.assertEqual(refusal(Numbers.every, 1, first=wrong), not_usable('first'))
        self.assertRaises(TypeError, Numbers.every, 1, 2)

    def test_none(self):
        self.assertEqual(Numbers.none().told, EMPTY)
        self.assertEqual(Numbers().none(), Numbers())

    def test_defined_in_the_class(self):
        for name in ('told', 'of', 'every', 'none', '__contains__', '__bool__', '__getitem__', '__str__', '__le__',
                     '__ge__', '__eq__', '__or__', '__add__', '__radd__', '__sub__', '__iter__'):
            self.assertIn(name, vars(Numbers))
        self.assertIsInstance(vars(Numbers)['none'], staticmethod)
        self.assertIsInstance(vars(Numbers)['every'], classmethod)


if __name__ == '__main__':
    unittest.main()

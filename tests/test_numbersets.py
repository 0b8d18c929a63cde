"""[6], [13]: number sets and what is asked of them."""

import random
import unittest
from math import lcm

from forkyields import numbersets as sets
from tests.samples import not_usable, odd_values, refusal, same, spoiled

EMPTY = ((), (), 0)
ALL = ((), (0,), 1)


def has(told, number):
    early, repeats, period = told
    return number in early or any(r <= number and (number - r) % period == 0 for r in repeats)


def one_form(members, begin, period):
    """The number set of a membership function that repeats with this period from begin on."""
    tail = range(begin, begin + period)
    if not any(map(members, tail)):
        return (tuple(n for n in range(begin) if members(n)), (), 0)
    p = next(p for p in range(1, period + 1) if all(members(n) == members(n + p) for n in tail))
    repeats = []
    for n in range(begin, begin + p):
        if members(n):
            while n - p >= 0 and members(n - p):
                n -= p
            repeats.append(n)
    early = [n for n in range(begin) if members(n) and not any(n >= r and (n - r) % p == 0 for r in repeats)]
    return (tuple(early), tuple(sorted(repeats)), p)


def random_set(rng, most=12, periods=8):
    members = {n for n in range(most) if rng.random() < 0.5}
    if rng.random() < 0.3:
        return (tuple(sorted(members)), (), 0)
    period = rng.randint(1, periods)
    cycle = [rng.random() < rng.random() for _ in range(period)]
    return one_form(lambda n: n in members if n < most else cycle[n % period], most, period)


def random_sets(seed, many, **limits):
    rng = random.Random(seed)
    return [random_set(rng, **limits) for _ in range(many)]


class NumberSetsTest(unittest.TestCase):
    def test_examples(self):
        self.assertEqual(sets.number_set((1, 2, 4), first=2, period=4), ((1,), (2,), 2))
        self.assertEqual(sets.joined_sets(((), (0,), 2), ((), (0,), 3)), ((), (0, 2, 3, 4), 6))

    def test_document(self):
        self.assertEqual(sets.number_set((1,), first=1, period=1), ((), (1,), 1))
        self.assertEqual(sets.number_set((0, 3, 5), first=5, period=1), ((0, 3), (5,), 1))

    def test_is_number_set(self):
        for told in random_sets(1, 400) + [EMPTY, ALL, ((10 ** 59,), (), 0), ((), (10 ** 59,), 10 ** 58),
                                           ((), (0, 10 ** 59 + 1), 3), ((1, 4), (3, 5), 7 * 10 ** 50)]:
            self.assertIs(sets.is_number_set(told), True, told)
            self.assertIs(sets.is_number_set(thing=told), True)
        for wrong in odd_values() + [
                (), ((), ()), ((), (), 1), ((), (0,), 0), ((), (0, 1), 2), ((), (0, 2), 4), ((), (0, 2), 2),
                ((0,), (2,), 2), ((2,), (2,), 2), ((4,), (2,), 2), ((), (1, 0), 3), ((1, 0), (), 0), ((0, 0), (), 0),
                ([], (), 0), ((), [], 0), ((), (), -1), ((), (), False), ((True,), (), 0), ((-1,), (), 0),
                ((), (False,), 1), ((), (0,), True), ((), (-1,), 1), ((), (0, 1, 3, 4), 6), [(), (), 0],
                ((), (0, 10 ** 59), 2 * 10 ** 59)]:
            self.assertIs(sets.is_number_set(wrong), False, wrong)

    def test_is_number_set_wrong_in_one_place(self):
        for told in (EMPTY, ALL, ((0, 3), (5,), 1), ((1,), (0, 4, 7), 5)):
            for wrong in spoiled(told):
                form = (type(wrong) is tuple and len(wrong) == 3 and type(wrong[2]) is int and wrong[2] >= 0
                        and all(type(part) is tuple and all(type(n) is int and n >= 0 for n in part)
                                for part in wrong[:2]))
                if form and (not wrong[1] or wrong[2] > 0):
                    begin = max([0, *wrong[0], *wrong[1]]) + 1
                    right = same(one_form(lambda n: has(wrong, n), begin, wrong[2] or 1), wrong)
                else:
                    right = False
                self.assertIs(sets.is_number_set(wrong), right, wrong)

    def test_number_set(self):
        rng = random.Random(3)
        for _ in range(1500):
            first, period = rng.randrange(8), rng.randrange(9)
            top = first + period if period else 12
            members = tuple(n for n in range(top) if rng.random() < 0.6)
            told = sets.number_set(members, first=first, period=period)

            def member(n):
                return (n if n < top else first + (n - first) % period) in members if period else n in members

            self.assertTrue(same(told, one_form(member, 13, period or 1)), (members, first, period))
            self.assertTrue(sets.is_number_set(told))

    def test_number_set_keywords(self):
        self.assertEqual(sets.number_set(()), EMPTY)
        self.assertEqual(sets.number_set((0, 7)), ((0, 7), (), 0))
        self.assertEqual(sets.number_set((0, 7), first=3), ((0, 7), (), 0))
        self.assertEqual(sets.number_set((0,), period=2), ((), (0,), 2))
        self.assertEqual(sets.number_set(members=(0, 1, 2), first=0, period=3), ALL)
        self.assertEqual(sets.number_set((), first=3, period=3), EMPTY)
        self.assertEqual(sets.number_set((1,), first=2, period=3), ((1,), (), 0))
        self.assertRaises(TypeError, sets.number_set, (), 0, 0)

    def test_number_set_refusals(self):
        for wrong in odd_values() + [(2, 1), [1], (True,), (1, 1), (-1,), 3]:
            self.assertEqual(refusal(sets.number_set, wrong, first=None, period=None), not_usable('members'))
        for wrong in (None, True, -1, '', (), [], 'a', (1,)):
            self.assertEqual(refusal(sets.number_set, (9,), first=wrong, period=None), not_usable('first'))
            self.assertEqual(refusal(sets.number_set, (9,), first=1, period=wrong), not_usable('period'))
        self.assertEqual(refusal(sets.number_set, (5,), first=2, period=3), not_usable('members'))
        self.assertIsNone(refusal(sets.number_set, (4,), first=2, period=3))
        self.assertEqual(refusal(sets.number_set, (1, 9), first=0, period=1), not_usable('members'))

    def test_has_number(self):
        for told in random_sets(4, 200):
            for n in range(40):
                self.assertIs(sets.has_number(told, n), has(told, n))
        self.assertIs(sets.has_number(((), (1,), 2), 10 ** 59 + 1), True)

    def test_all_within(self):
        tolds = random_sets(5, 60, most=6, periods=4) + [EMPTY, ALL]
        for told in tolds:
            for other in tolds:
                right = all(has(other, n) for n in range(6 + 24) if has(told, n))
                self.assertIs(sets.all_within(told, other), right, (told, other))

    def test_all_within_far_starts(self):
        late = ((), (10 ** 50,), 1)
        self.assertTrue(sets.all_within(late, ALL))
        self.assertFalse(sets.all_within(ALL, late))
        self.assertFalse(sets.all_within(((), (0,), 3), ((0, 3), (12,), 3)))
        self.assertTrue(sets.all_within(((), (0,), 6), ((0, 6), (12,), 3)))

    def test_joined_sets(self):
        rng = random.Random(6)
        tolds = random_sets(6, 80, most=6, periods=4) + [EMPTY, ALL]
        for _ in range(600):
            parts = rng.choices(tolds, k=rng.randint(1, 4))
            right = one_form(lambda n: any(has(part, n) for part in parts), 6, 12)
            self.assertTrue(same(sets.joined_sets(*parts), right), parts)
            self.assertEqual(sets.joined_sets(*parts, *parts[::-1]), right)

    def test_great_periods(self):
        rng = random.Random(7)
        for one, two in ((60, 59), (60, 49), (64, 75), (60, 60), (59, 58), (1, 60), (30, 60)):
            first = one_form(lambda n: n % one in (0, 7 % one) or n == 500, 501, one)
            second = one_form(lambda n: n % two == 1 % two and n > 300, 361, two)
            whole = lcm(one, two)
            joined = sets.joined_sets(first, second)
            self.assertTrue(sets.is_number_set(joined))
            self.assertEqual(whole % joined[2], 0)
            for n in [rng.randrange(3 * whole) for _ in range(800)]:
                self.assertEqual(sets.has_number(joined, n), has(first, n) or has(second, n))
            self.assertTrue(sets.all_within(first, joined) and sets.all_within(second, joined))
            self.assertEqual(sets.all_within(joined, first), sets.all_within(second, first))
            self.assertEqual(sets.all_within(joined, joined), True)

    def test_all_remainders(self):
        evens, odds = ((), (0,), 2), ((), (7,), 2)
        self.assertEqual(sets.joined_sets(evens, odds), ((0, 2, 4), (6,), 1))
        self.assertEqual(sets.joined_sets(evens, ((1, 3), (7,), 2)), ((0, 1, 2, 3, 4), (6,), 1))
        self.assertEqual(sets.joined_sets(evens, ((), (1,), 2)), ALL)

    def test_most_in(self):
        self.assertIs(sets.most_in(ALL), None)
        self.assertEqual([sets.most_in(EMPTY), sets.most_in(((0,), (), 0)), sets.most_in(((3, 10 ** 59), (), 0))],
                         [-1, 0, 10 ** 59])
        self.assertIs(sets.most_in(((9,), (0,), 2)), None)

    def test_moved_set(self):
        for told in random_sets(8, 150):
            for by in range(-25, 26):
                period = told[2] or 1
                right = one_form(lambda n: n >= by and has(told, n - by), 60, period)
                self.assertTrue(same(sets.moved_set(told, by), right), (told, by))
        self.assertEqual(sets.moved_set(((), (5,), 3), -10 ** 58), ((), ((5 - 10 ** 58) % 3,), 3))
        self.assertEqual(sets.moved_set(((4,), (5,), 3), 10 ** 58), ((10 ** 58 + 4,), (10 ** 58 + 5,), 3))

    def test_first_numbers(self):
        for told in random_sets(9, 150):
            members = [n for n in range(400) if has(told, n)]
            for many in (0, 1, 2, 5, 17, 40):
                if told[2] or many <= len(members):
                    self.assertTrue(same(sets.first_numbers(told, many), tuple(members[:many])), (told, many))
                else:
                    self.assertEqual(sets.first_numbers(told, many), tuple(members))
        self.assertEqual(sets.first_numbers(((1, 2), (), 0), 400), (1, 2))
        self.assertEqual(len(sets.first_numbers(ALL, 400)), 400)
        self.assertEqual(sets.first_numbers(((), (0, 10 ** 59 + 1), 3), 3), (0, 3, 6))

    def test_refusals(self):
        told = ((1,), (2,), 2)
        wrongs = odd_values() + [(1, 2), ((), (0,), 0), [(), (), 0]]
        for wrong in wrongs:
            for call, word, after in ((sets.has_number, 'told', -1), (sets.all_within, 'told', None),
                                      (sets.joined_sets, 'told', None), (sets.moved_set, 'told', None),
                                      (sets.first_numbers, 'told', None)):
                self.assertEqual(refusal(call, wrong, after), not_usable(word))
            self.assertEqual(refusal(sets.most_in, wrong), not_usable('told'))
            self.assertEqual(refusal(sets.all_within, told, wrong), not_usable('other'))
            self.assertEqual(refusal(sets.joined_sets, told, told, wrong, None), not_usable('others', 1))
            self.assertEqual(refusal(sets.joined_sets, told, wrong), not_usable('others', 0))
        for wrong in (None, True, False, -1, '', 'a', (), [], (1,), told):
            self.assertEqual(refusal(sets.has_number, told, wrong), not_usable('number'))
            self.assertEqual(refusal(sets.first_numbers, told, wrong), not_usable('many'))
            if wrong != -1 or isinstance(wrong, bool):
                self.assertEqual(refusal(sets.moved_set, told, wrong), not_usable('by'))

    def test_parameters_by_name(self):
        told = ((1,), (), 0)
        self.assertTrue(sets.has_number(told=told, number=1))
        self.assertTrue(sets.all_within(told=told, other=told))
        self.assertEqual(sets.joined_sets(told=told), told)
        self.assertEqual(sets.most_in(told=told), 1)
        self.assertEqual(sets.moved_set(told=told, by=-1), ((0,), (), 0))
        self.assertEqual(sets.first_numbers(told=told, many=1), (1,))


if __name__ == '__main__':
    unittest.main()

"""[38]: accounts as objects."""

import unittest

from forkyields.accountclasses import Account
from forkyields.accounts import account_of, reach_of
from forkyields.numberclasses import Numbers
from forkyields.numbersets import all_within, joined_sets
from forkyields.systemclasses import System
from tests.samples import BUSY, LIB, SYSTEM, SYSTEMS, Odd, lively_systems, not_usable, odd_values, refusal, same

NONE = ((), (), 0)
ANY = ((), (0,), 1)
LOOP = ('loop', (), (('go', (1, 2)), ('fork', 'lib', 'm', '', 0), ('exit', 0)))
EMPTY = ((NONE, NONE),) * 3


def some(*numbers):
    return (numbers, (), 0)


def right_reach(pair):
    if pair[0][2] or pair[1][2]:
        return None
    return max([-1, *pair[1][0], *[n - 1 for n in pair[0][0]]])


def within(parts, other):
    """Whether an account is the lesser one, by the words of [38]."""
    for pair, more in zip(parts, other):
        most = right_reach(more)
        if not all_within(pair[0], more[0]) or (most is not None and (right_reach(pair) is None or right_reach(pair) > most)):
            return False
    return True


def accounts():
    """Accounts of kinds, and made up ones: with finite, repeating and empty sets, and every reach."""
    made = [account_of(system, kind[0]) for system in list(SYSTEMS) + [(LOOP, LIB)] + lively_systems(380, 12)
            for kind in system]
    sets = [NONE, some(0), some(1), some(0, 3), ((), (1,), 2), ((2,), (4,), 3), ANY]
    made += [((one, two), (two, one), (one, one)) for one in sets for two in sets]
    return made + [EMPTY]


class AccountTest(unittest.TestCase):
    def test_example(self):
        work, lib = Account.of(SYSTEM, 'work'), Account.of(SYSTEM, 'lib')
        self.assertEqual(
            [work <= lib, lib <= work, lib <= work | lib, lib.reach(0), bool(work), str(lib).split('\n')[0]],
            [False, False, True, 0, True, '0: 1; -; 0'])

    def test_made(self):
        for parts in accounts():
            self.assertTrue(same(Account(parts).parts_now, parts))
            self.assertEqual(Account(parts=parts), Account(parts))
        right = (some(1), NONE)
        for wrong in odd_values() + [(), (right, right), (right,) * 4, [right] * 3, (right, right, list(right)),
                                     (right, right, right[:1]), (right, right, (*right, NONE)), (right, (NONE, None), right),
                                     ((((1, 0), (), 0), NONE), right, right), ((((1,), (), 1), NONE), right, right),
                                     ((((True,), (), 0), NONE), right, right), ((Numbers(), NONE), right, right),
                                     (right, right, Account((right,) * 3)), 0, 'a']:
            self.assertEqual(refusal(Account, wrong), not_usable('parts'))
        with self.assertRaises(AttributeError):
            Account(EMPTY).parts_now = EMPTY

    def test_of(self):
        for system in list(SYSTEMS) + lively_systems(381, 10):
            for kind in system:
                made = Account.of(system=system, kind=kind[0])
                self.assertIs(type(made), Account)
                self.assertEqual(made.parts_now, account_of(system, kind[0]))
                for code in (0, 1, 2):
                    self.assertEqual(made.reach(code=code), reach_of(system, kind[0], code))
        for wrong in odd_values():
            self.assertEqual(refusal(Account.of, wrong, None), not_usable('system'))
            self.assertEqual(refusal(Account.of, SYSTEM, wrong), not_usable('kind'))

    def test_parts_and_reach(self):
        reaches = set()
        for parts in accounts():
            made = Account(parts)
            for code in (0, 1, 2):
                self.assertTrue(same(made[code], parts[code]))
                self.assertEqual(made.reach(code), right_reach(parts[code]))
                reaches.add(made.reach(code))
            for wrong in odd_values() + [3, -1, 10 ** 59, '0', (0,), slice(0, 1), True, False]:
                self.assertEqual(refusal(made.reach, wrong), not_usable('code'))
                self.assertEqual(refusal(lambda: made[wrong]), not_usable('code'))
        self.assertTrue(reaches >= {None, -1, 0, 1, 2, 3})
        self.assertEqual(Account(((some(0), NONE),) * 3).reach(0), -1)
        self.assertEqual(Account(((NONE, some(0)),) * 3).reach(0), 0)

    def test_compared(self):
        told = accounts()[::2]
        met = set()
        for one in told:
            for two in told:
                first, second = Account(one), Account(two)
                self.assertIs(first <= second, within(one, two))
                self.assertIs(first >= second, within(two, one))
                alike = all(a[0] == b[0] and right_reach(a) == right_reach(b) for a, b in zip(one, two))
                self.assertIs(first == second, alike)
                self.assertIs(first != second, not alike)
                met.add((within(one, two), within(two, one), alike, one == two))
        self.assertTrue(met >= {(True, True, True, True), (True, False, False, False), (False, False, False, False)})

    def test_equal_by_reach(self):
        """Unsettled sets count by the reach alone."""
        one = Account(((some(3), some(2)), (NONE, NONE), (NONE, NONE)))
        two = Account(((some(3), some(0, 1)), (NONE, NONE), (NONE, NONE)))
        other = Account(((some(3), some(3)), (NONE, NONE), (NONE, NONE)))
        self.assertTrue(one == two and one <= two <= one)
        self.assertFalse(one == other)
        self.assertTrue(one <= other and not other <= one)
        # Each code counts.
        for code in (0, 1, 2):
            parts = [(NONE, NONE)] * 3
            parts[code] = (some(1), NONE)
            self.assertFalse(Account(tuple(parts)) == Account(EMPTY))
            self.assertFalse(Account(tuple(parts)) <= Account(EMPTY))
            parts[code] = (NONE, some(0))
            self.assertFalse(Account(tuple(parts)) == Account(EMPTY))
            self.assertFalse(Account(tuple(parts)) <= Account(EMPTY))

    def test_joined(self):
        told = accounts()[::3]
        for one in told:
            for two in told:
                joined = Account(one) | Account(two)
                self.assertIs(type(joined), Account)
                right = tuple(tuple(joined_sets(*sets) for sets in zip(*pair)) for pair in zip(one, two))
                self.assertTrue(same(joined.parts_now, right))
                self.assertTrue(Account(one) <= joined and joined >= Account(two))

    def test_truth(self):
        for parts in accounts():
            self.assertIs(bool(Account(parts)), any(told != NONE for pair in parts[:2] for told in pair))
        for at in range(6):
            sets = [NONE] * 6
            sets[at] = ANY if at % 2 else some(0)
            parts = tuple((sets[k], sets[k + 1]) for k in (0, 2, 4))
            self.assertIs(bool(Account(parts)), at < 4)

    def test_text(self):
        for parts in accounts():
            lines = str(Account(parts)).split('\n')
            self.assertEqual(len(lines), 3)
            for code, (settled, unsettled) in enumerate(parts):
                reach = right_reach(parts[code])
                end = 'endless' if reach is None else reach
                self.assertEqual(lines[code], f'{code}: {Numbers(settled)}; {Numbers(unsettled)}; {end}')
        made = Account(((((0, 3), (5,), 1), some(4)), (some(7), some(2, 6)), (NONE, NONE)))
        self.assertEqual(str(made), '0: 0, 3, 5+1; 4; endless\n1: 7; 2, 6; 6\n2: -; -; -1')

    def test_other_kinds(self):
        made = Account.of(SYSTEM, 'work')
        for other in odd_values() + [made.parts_now, Numbers(), System(SYSTEM), BUSY, 0, 'work']:
            self.assertIs(made == other, False)
            if isinstance(other, Odd):
                continue
            self.assertIs(other == made, False)
            for call in (lambda: made <= other, lambda: made >= other, lambda: other <= made, lambda: other >= made,
                         lambda: made | other):
                with self.assertRaises(TypeError):
                    call()
            if not isinstance(other, Numbers):
                with self.assertRaises(TypeError):
                    other | made

    def test_no_iteration(self):
        made = Account.of(SYSTEM, 'work')
        for call in (iter, list, tuple, sorted):
            with self.assertRaises(TypeError):
                call(made)
        with self.assertRaises(TypeError):
            0 in made

    def test_unchanged(self):
        one, two = Account.of(SYSTEM, 'work'), Account.of(SYSTEM, 'lib')
        before = (one.parts_now, two.parts_now)
        for call in (lambda: one | two, lambda: one <= two, lambda: one == two, lambda: str(one), lambda: one[3],
                     lambda: one.reach(True)):
            refusal(call)
            self.assertTrue(same((one.parts_now, two.parts_now), before))


if __name__ == '__main__':
    unittest.main()

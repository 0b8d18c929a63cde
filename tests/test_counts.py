"""[40]: counted runs."""

import random
import unittest

from forkyields.accounts import account_of
from forkyields.counts import counted_run, lets_count
from forkyields.numbersets import first_numbers, has_number
from forkyields.tables import table_of
from tests.closed import members, state_fits
from tests.ruleplay import successors
from tests.samples import (
    BUSY, KEEPER, LIB, SYSTEM, SYSTEMS, WORK, lively_systems, not_usable, odd_values, refusal, same, spoiled)

LOOP = ('loop', (), (('go', (1, 2)), ('fork', 'lib', 'm', '', 0), ('exit', 0)))
WAITER = ('waiter', ('a',), (('fork', 'loop', 'm', 'a', 1), ('go', (1, 2, 3)), ('kill', 'a', 4), ('release', 'a', 4),
                             ('wait', (('a', 5, 5, 5),), 4, 5, ()), ('poll', (), 5, 6, 5, ()), ('exit', 1)))


def paper(word, at):
    return ('InvalidPaper', {'word': word, 'at': at})


def windows(system, kind):
    """The accounts of the later kinds, up to a bound, in the form of the rules that are played by number."""
    names = [known[0] for known in system]
    found = {}
    for name in names[names.index(kind) + 1:]:
        found[name] = {(code, late): {(n, 0) for n in members(told) if n <= 80}
                       for code, pair in enumerate(account_of(system, name)) for late, told in enumerate(pair)}
    return found


def count_fault(system, kind, thing, accounts):
    """The first fault of any value as a counted run, number by number; None if it is one."""
    known = [made for made in system if made[0] == kind][0]
    if type(thing) is not tuple or not thing or not all(
            type(part) is tuple and len(part) == 3 and state_fits(known, part[0]) and type(part[1]) is int
            and part[1] >= 0 and type(part[2]) is bool for part in thing):
        return ('shape', -1)
    if thing[0] != ((0, ((),) * len(known[1])), 0, False):
        return ('first', -1)
    for k in range(1, len(thing)):
        state, number, living = thing[k - 1]
        after = {(s, n, alive) for s, n, _, alive in successors(known, accounts, (state, number, 0, living))}
        if thing[k] not in after:
            return ('rule', k)
    return None


class CountsTest(unittest.TestCase):
    def agree(self, system, kind, thing, accounts):
        fault = count_fault(system, kind, thing, accounts)
        self.assertEqual(refusal(lets_count, system, kind, thing), fault and paper(*fault), thing)
        if fault is None:
            self.assertTrue(same(lets_count(system=system, kind=kind, thing=thing), thing[-1]))
        return fault and fault[0]

    def test_example(self):
        self.assertEqual(counted_run(SYSTEM, 'work', (1, ()), 0, living=True), (((0, ()), 0, False), ((1, ()), 0, True)))
        self.assertEqual(counted_run(system=SYSTEM, kind='lib', state=(0, ()), number=0, living=False), (((0, ()), 0, False),))

    def test_each_number(self):
        rng = random.Random(400)
        met = set()
        for system in list(SYSTEMS) + [(LOOP, LIB), (WAITER, LOOP, LIB)] + lively_systems(401, 20, places=8):
            for kind in system:
                accounts = windows(system, kind[0])
                table = table_of(system, kind[0])
                for state, *told in rng.sample(table, min(len(table), 4)):
                    for living in (False, True):
                        for number in first_numbers(told[living], 3):
                            made = counted_run(system, kind[0], state, number, living=living)
                            self.assertEqual(made[-1], (state, number, living))
                            self.assertIsNone(self.agree(system, kind[0], made, accounts))
                            met.add(living)
                        for number in [n for n in range(6) if not has_number(told[living], n)][:2] + [None]:
                            self.assertEqual(refusal(counted_run, system, kind[0], state, number, living=living),
                                             not_usable('number'))
        self.assertEqual(met, {False, True})

    def test_large_numbers(self):
        for number in (0, 1, 30, 59, 60):
            for living in (False, True):
                made = counted_run((LOOP, LIB), 'loop', (2, ()), number, living=living)
                self.assertEqual(lets_count((LOOP, LIB), 'loop', made), ((2, ()), number, living))
                made = counted_run((WAITER, LOOP, LIB), 'waiter', (4, ((0, 2),)), number, living=living)
                self.assertEqual(lets_count((WAITER, LOOP, LIB), 'waiter', made), ((4, ((0, 2),)), number, living))

    def test_by_hand(self):
        """Numbers of sixty digits are counted, too: a rule may add any number of an account."""
        far = 10 ** 59
        made = (((0, ((),)), 0, False), ((1, ((0, 0),)), far, False), ((3, ((0, 0),)), far, False), ((4, ((),)), far + 1, False),
                ((4, ((),)), far, False))
        self.assertEqual(lets_count((WAITER, LOOP, LIB), 'waiter', made), made[-1])
        for k in range(1, 5):
            wrong = made[:k] + ((made[k][0], made[k][1] + 2 * far, made[k][2]),) + made[k + 1:]
            at = k if k > 1 else 2
            self.assertEqual(refusal(lets_count, (WAITER, LOOP, LIB), 'waiter', wrong), paper('rule', at))

    def test_changed_at_one_place(self):
        rng = random.Random(402)
        words = {}
        for system in list(SYSTEMS) + [(WAITER, LOOP, LIB)] * 3 + lively_systems(403, 40, places=8):
            for kind in system[:2]:
                accounts = windows(system, kind[0])
                table = table_of(system, kind[0])
                for row in rng.sample(table, min(len(table), 3)):
                    living = not row[1][0] and not row[1][1]
                    made = counted_run(system, kind[0], row[0], first_numbers(row[1 + living], 1)[0], living=living)
                    k = rng.randrange(len(made))
                    state, number, alive = made[k]
                    for other in ((state, number + 1, alive), (state, max(number - 1, 0), alive), (state, number, not alive),
                                  (rng.choice(table)[0], number, alive), (state, number), [state, number, alive],
                                  (state, number, int(alive)), (state, -1, alive), (state, True, alive)):
                        word = self.agree(system, kind[0], made[:k] + (other,) + made[k + 1:], accounts)
                        words[word] = words.get(word, 0) + 1
                    self.agree(system, kind[0], made[:k] + made[k + 1:], accounts)
                    self.agree(system, kind[0], made + made, accounts)
        self.assertTrue(min(words[word] for word in (None, 'shape', 'first', 'rule')) > 10, words)

    def test_several_faults(self):
        first, second = ((0, ()), 0, False), ((1, ()), 0, True)
        self.assertEqual(refusal(lets_count, SYSTEM, 'work', (second, first, None)), paper('shape', -1))
        self.assertEqual(refusal(lets_count, SYSTEM, 'work', (second, second)), paper('first', -1))
        self.assertEqual(refusal(lets_count, SYSTEM, 'work', (first, second, second, first)), paper('rule', 2))
        self.assertEqual(refusal(lets_count, SYSTEM, 'work', (first, first, first)), paper('rule', 1))
        self.assertEqual(refusal(lets_count, SYSTEM, 'work', (((0, ()), 0, True), second)), paper('first', -1))
        self.assertEqual(refusal(lets_count, SYSTEM, 'work', (((0, ()), 1, False),)), paper('first', -1))

    def test_values_of_every_kind(self):
        words = set()
        for system, kind, thing in ((SYSTEM, 'work', (((0, ()), 0, False), ((1, ()), 0, True))),
                                    (SYSTEM, 'main', counted_run(SYSTEM, 'main', (2, ((0, 0),)), 2)),
                                    (KEEPER, 'keep', counted_run(KEEPER, 'keep', (3, ((0, 2),)), 0))):
            accounts = windows(system, kind)
            for wrong in spoiled(thing):
                words.add(self.agree(system, kind, wrong, accounts))
            for wrong in odd_values():
                self.agree(system, kind, wrong, accounts)
        self.assertEqual(words, {None, 'shape', 'first', 'rule'})

    def test_refused(self):
        for wrong in odd_values() + [(), SYSTEM[:2]]:
            self.assertEqual(refusal(counted_run, wrong, None, None, None, living=None), not_usable('system'))
            self.assertEqual(refusal(lets_count, wrong, None, None), not_usable('system'))
        for wrong in odd_values() + ['nosuch', 0, ('main',)]:
            self.assertEqual(refusal(counted_run, SYSTEM, wrong, None, None, living=None), not_usable('kind'))
            self.assertEqual(refusal(lets_count, SYSTEM, wrong, None), not_usable('kind'))
        for wrong in odd_values() + [(0, ()), (7, ((),)), (1, ((1, -1),)), (1, ((0, True),)), [1, ((),)], 0]:
            self.assertEqual(refusal(counted_run, SYSTEM, 'main', wrong, None, living=None), not_usable('state'))
        for wrong in odd_values() + [0, 1]:
            if not isinstance(wrong, bool):
                self.assertEqual(refusal(counted_run, SYSTEM, 'main', (1, ((0, -1),)), 99, living=wrong),
                                 not_usable('living'))
        for wrong in odd_values() + [1, 99]:
            self.assertEqual(refusal(counted_run, SYSTEM, 'main', (1, ((0, -1),)), wrong), not_usable('number'))
        self.assertEqual(refusal(counted_run, BUSY, 'top', (9, ((), (1, 2))), 10 ** 59), not_usable('number'))
        self.assertIsNone(refusal(counted_run, (WORK, LIB), 'work', (1, ()), 1))


if __name__ == '__main__':
    unittest.main()

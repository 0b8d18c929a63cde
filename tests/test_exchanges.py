"""[43], [44] and (F3) in [9]: which kinds can stand for which."""

import random
import unittest

from forkyields.accountclasses import Account
from forkyields.accounts import account_of, reach_of
from forkyields.exchanges import are_alike, can_replace, parting
from forkyields.numbersets import all_within, most_in
from forkyields.probes import reach_probe, settled_probe
from forkyields.systemchanges import exchanged, with_kind
from forkyields.systemparts import kind_names
from forkyields.tables import table_of
from tests.samples import LIB, SYSTEM, SYSTEMS, lively_systems, not_usable, odd_values, refusal, same

FORK = ('fork', 'lib', 't', '', 1)


def kind(name, *places, slots=()):
    return (name, slots, places)


# Kinds that bring one, two or any number, settled or not, with one code or the other.
KINDS = (
    kind('any', ('go', (1, 2)), ('fork', 'lib', 'm', '', 0), ('exit', 0)),
    kind('two', ('fork', 'lib', 'm', '', 1), ('exit', 0)),
    kind('three', ('fork', 'lib', 'm', '', 1), ('fork', 'lib', 'm', '', 2), ('exit', 0)),
    kind('odds', ('go', (1, 3)), ('fork', 'lib', 'm', '', 2), ('fork', 'lib', 'm', '', 0), ('exit', 0)),
    kind('leaves', ('fork', 'stays', 'm', '', 1), ('exit', 0)),
    kind('other', ('exit', 1)),
    kind('either', ('go', (1, 2)), ('exit', 0), ('exit', 1)),
    kind('waits', ('fork', 'lib', 'm', '', 1), ('wait', (), 2, 2, ()), ('exit', 0)),
    kind('stays', ('go', (0,))),
    kind('also', ('go', (1, 2)), ('exit', 0), ('exit', 0)),
    LIB,
)


def comes_to(system, name, place):
    return place in [row[0][0] for row in table_of(system, name)]


class ExchangesTest(unittest.TestCase):
    def test_example(self):
        self.assertEqual([can_replace(SYSTEM, 'work', 'lib'), are_alike(SYSTEM, 'lib', 'lib'),
                          parting(SYSTEM, 'work', 'lib')[1]], [False, True, 3])

    def check(self, system, old, new):
        lesser = Account.of(system, new) <= Account.of(system, old)
        greater = Account.of(system, old) <= Account.of(system, new)
        self.assertIs(can_replace(system=system, old=old, new=new), lesser)
        self.assertIs(are_alike(system=system, old=old, new=new), lesser and greater)
        told = parting(system=system, old=old, new=new)
        if lesser:
            self.assertIsNone(told)
        else:
            self.check_parting(system, old, new, told)
        return (lesser, greater)

    def check_parting(self, system, old, new, told):
        """It is a probe of the old kind, which does not come to its place, but would with the new one."""
        self.assertIs(type(told), tuple)
        probe, place = told
        name = probe[0]
        self.assertNotIn(name, kind_names(system))
        code = 2 if probe[2][1][0] == 'kill' else probe[2][1][1][0][1:].index(2)
        number = place - (2 if code == 2 else 1) - 1
        self.assertTrue(any(same(told, made(old, code, number, called=name)) for made in (settled_probe, reach_probe)))
        self.assertFalse(comes_to(with_kind(system, probe), name, place))
        other = (name, probe[1], (('fork', new, *probe[2][0][2:]), *probe[2][1:]))
        self.assertTrue(comes_to(with_kind(system, other), name, place))

    def test_pairs(self):
        met = set()
        for old in kind_names(KINDS):
            for new in kind_names(KINDS):
                met.add(self.check(KINDS, old, new))
        self.assertEqual(len(met), 4)

    def test_systems(self):
        met = set()
        for system in list(SYSTEMS) + lively_systems(420, 50):
            for old in kind_names(system):
                for new in kind_names(system):
                    met.add(self.check(system, old, new))
        self.assertEqual(len(met), 4)

    def test_by_hand(self):
        for old, new, right in (('two', 'lib', False), ('any', 'lib', True), ('any', 'two', True), ('any', 'odds', True),
                                ('odds', 'any', False), ('odds', 'three', True), ('three', 'odds', False),
                                ('leaves', 'stays', True), ('lib', 'also', True), ('also', 'lib', True), ('lib', 'waits', False),
                                ('lib', 'other', False), ('either', 'other', True), ('other', 'either', False)):
            self.assertIs(can_replace(KINDS, old, new), right, (old, new))
        self.assertTrue(are_alike(KINDS, 'also', 'lib'))
        self.assertFalse(are_alike(KINDS, 'any', 'odds'))

    def test_parting_for_each_code(self):
        met = set()
        for code in (0, 1):
            ends = kind('ends', ('exit', code))
            more = kind('more', FORK, ('exit', code))
            left = kind('left', ('fork', 'stays', 't', '', 1), ('exit', code))
            further = kind('further', ('fork', 'stays', 't', '', 1), ('fork', 'lib', 't', '', 2), ('exit', code))
            endless = kind('endless', ('fork', 'stays', 't', '', 1), ('go', (2, 3)), ('fork', 'lib', 't', '', 1), ('exit', code))
            system = (ends, more, left, further, endless, kind('stays', ('go', (0,))), LIB)
            for old in kind_names(system):
                for new in kind_names(system):
                    self.check(system, old, new)
                    told = parting(system, old, new)
                    if told is not None:
                        probe, place = told
                        word = probe[2][place - 1][0]
                        killed = probe[2][1][0] == 'kill'
                        met.add((2 if killed else probe[2][1][1][0][1:].index(2), word))
        # Reaches part alone where the settled numbers are the same: for the code of the exit, and for the kill.
        self.assertTrue(met >= {(0, 'wait'), (0, 'poll'), (1, 'wait'), (1, 'poll')}, met)

    def test_parting_by_a_kill(self):
        """Kinds that never end by themselves part by code 2 alone."""
        system = (kind('one', ('go', (0,))), kind('two', FORK, ('go', (1,))),
                  kind('left', ('fork', 'one', 't', '', 1), ('go', (1,))), LIB)
        system = (system[2], *system[:2], LIB)
        for old in ('one', 'two', 'left'):
            for new in ('one', 'two', 'left'):
                self.check(system, old, new)
        told = parting(system, 'one', 'two')
        self.assertEqual(told[0][2][1][0], 'kill')
        self.assertEqual(told[0][2][told[1] - 1][0], 'wait')
        told = parting(system, 'one', 'left')
        self.assertEqual((told[0][2][1][0], told[0][2][told[1] - 1][0]), ('kill', 'poll'))

    def test_endless_reaches(self):
        system = (kind('endless', ('fork', 'stays', 't', '', 1), ('go', (2, 3)), ('fork', 'lib', 't', '', 1), ('exit', 0)),
                  kind('left', ('fork', 'stays', 't', '', 1), ('exit', 0)), kind('stays', ('go', (0,))), LIB)
        self.assertEqual((reach_of(system, 'endless', 0), reach_of(system, 'left', 0)), (None, 1))
        self.assertEqual(self.check(system, 'left', 'endless'), (False, True))
        self.assertEqual(self.check(system, 'endless', 'left'), (True, False))
        self.assertEqual(self.check(system, 'stays', 'endless')[0], False)

    def test_names_that_are_there(self):
        system = (kind('probe', FORK, ('exit', 0)), kind('a', ('exit', 1)), kind('b', ('exit', 1)), kind('c', ('exit', 0)), LIB)
        for old in kind_names(system):
            for new in kind_names(system):
                self.check(system, old, new)
        letters = tuple(kind(letter, ('exit', 0)) for letter in 'abcdefghijklmnopqrstuvwxyz')
        system = (kind('probe', FORK, ('exit', 0)), *letters, LIB)
        self.check(system, 'lib', 'probe')
        system = (*letters, kind('probe', FORK, ('exit', 0)), *[kind(f'{letter[0]}b', ('exit', 0)) for letter in letters], LIB)
        self.check(system, 'lib', 'probe')

    def test_consequences(self):
        """[44]: where the new kind stands for the old one, kinds above come to no further state, and get no more."""
        rng = random.Random(421)
        met = {True: 0, False: 0}
        pairs = [(old, new) for old in kind_names(KINDS) for new in kind_names(KINDS)]
        for above in lively_systems(422, 60, kinds=2, places=8):
            top = ('top', above[0][1], tuple(self.forking(rng, place) for place in above[0][2]))
            for old, new in rng.sample(pairs, 6):
                if can_replace(KINDS, old, new):
                    system = (self.with_kinds(top, [old]), *KINDS)
                    if exchanged(system, old, new)[0] != system[0]:
                        met[True] += 1
                        self.no_more(table_of(system, 'top'), table_of((exchanged(system, old, new)[0], *KINDS), 'top'))
        self.assertGreater(met[True], 20)

    def forking(self, rng, place):
        return place if place[0] != 'fork' else ('fork', rng.choice(('lib', 'OLD')), *place[2:])

    def with_kinds(self, top, names):
        places = tuple(('fork', names[0], *place[2:]) if place[:2] == ('fork', 'OLD') else place for place in top[2])
        return (*top[:2], places)

    def no_more(self, before, after):
        known = {row[0]: row[1:] for row in before}
        for state, settled, unsettled in after:
            self.assertIn(state, known)
            self.assertTrue(all_within(settled, known[state][0]))
            most, had = self.greatest(settled, unsettled), self.greatest(*known[state])
            self.assertTrue(had is None or (most is not None and most <= had))

    def greatest(self, settled, unsettled):
        settled, unsettled = most_in(settled), most_in(unsettled)
        return None if settled is None or unsettled is None else max(settled - 1, unsettled)

    def test_accounts(self):
        self.assertEqual(account_of(KINDS, 'odds')[0][0], ((), (1,), 2))
        self.assertEqual(account_of(KINDS, 'any')[0][0], ((), (1,), 1))

    def test_refused(self):
        for call in (can_replace, are_alike, parting):
            for wrong in odd_values() + [(), SYSTEM[:2]]:
                self.assertEqual(refusal(call, wrong, None, None), not_usable('system'))
            for wrong in odd_values() + ['nosuch', 0, ('main',)]:
                self.assertEqual(refusal(call, SYSTEM, wrong, None), not_usable('old'))
                self.assertEqual(refusal(call, SYSTEM, 'lib', wrong), not_usable('new'))


if __name__ == '__main__':
    unittest.main()

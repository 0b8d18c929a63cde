"""[15], [17]: changed systems."""

import random
import unittest

from forkyields import systemchanges as changes
from forkyields.kinds import is_system
from tests.samples import (
    BUSY, LIB, RUN, SYSTEM, SYSTEMS, WORK, not_usable, odd_values, random_systems, refusal, same)

ALL = list(SYSTEMS) + random_systems(17, 40)
EXIT = ('exit', 0)


class SystemChangesTest(unittest.TestCase):
    def equal(self, told, right):
        self.assertTrue(same(told, right), (told, right))

    def test_with_kind(self):
        new = ('new', (), (EXIT,))
        for system in ALL:
            before = repr(system)
            self.equal(changes.with_kind(system, new), (new, *system))
            for at in range(len(system) + 1):
                self.equal(changes.with_kind(system, new, at=at), system[:at] + (new,) + system[at:])
            self.assertEqual(repr(system), before)
        self.assertRaises(TypeError, changes.with_kind, SYSTEM, new, 0)

    def test_with_kind_no_system(self):
        forks = ('new', (), (('fork', 'work', 't', '', 0),))
        for at in (0, 1):
            self.assertTrue(is_system(changes.with_kind(SYSTEM, forks, at=at)))
        for at in (2, 3):
            self.assertEqual(refusal(changes.with_kind, SYSTEM, forks, at=at), not_usable('kind'))
        self.assertEqual(refusal(changes.with_kind, SYSTEM, LIB), not_usable('kind'))
        self.assertEqual(refusal(changes.with_kind, SYSTEM, ('new', (), (('go', (1,)),))), not_usable('kind'))

    def test_with_kind_refusals(self):
        for wrong in odd_values() + [(), ('new', (), ()), ('new', (), (None,)), ['new', (), (EXIT,)], SYSTEM, 'lib']:
            self.assertEqual(refusal(changes.with_kind, SYSTEM, wrong, at=None), not_usable('kind'))
            self.assertEqual(refusal(changes.with_kind, (wrong,), None, at=None), not_usable('system'))
        for wrong in odd_values() + [4, 10 ** 59, 'a', (), -1]:
            self.assertEqual(refusal(changes.with_kind, SYSTEM, LIB, at=wrong), not_usable('at'))

    def test_without_kind(self):
        self.equal(changes.without_kind(SYSTEM, 'main'), (WORK, LIB))
        self.equal(changes.without_kind((LIB, ('a', (), (EXIT,))), 'lib'), (('a', (), (EXIT,)),))
        for system, kind in ((SYSTEM, 'work'), (SYSTEM, 'lib'), ((LIB,), 'lib')):
            self.assertEqual(refusal(changes.without_kind, system, kind), not_usable('kind'))
        for wrong in odd_values() + ['nosuch', LIB]:
            self.assertEqual(refusal(changes.without_kind, SYSTEM, wrong), not_usable('kind'))
        for wrong in odd_values() + [(), LIB]:
            self.assertEqual(refusal(changes.without_kind, wrong, None), not_usable('system'))

    def test_with_instruction(self):
        rng = random.Random(17)
        places = [place for system in ALL for kind in system for place in kind[2]]
        for _ in range(1500):
            system = rng.choice(ALL)
            i = rng.randrange(len(system))
            name, slots, old = system[i]
            p, new = rng.randrange(len(old)), rng.choice(places)
            right = system[:i] + ((name, slots, old[:p] + (new,) + old[p + 1:]),) + system[i + 1:]
            if is_system(right):
                self.equal(changes.with_instruction(system, name, p, new), right)
            else:
                self.assertEqual(refusal(changes.with_instruction, system, name, p, new), not_usable('instruction'))

    def test_with_instruction_refusals(self):
        for wrong in odd_values() + [('exit', 2), ['exit', 0], ('exit', True)]:
            self.assertEqual(refusal(changes.with_instruction, SYSTEM, 'main', 0, wrong), not_usable('instruction'))
            self.assertEqual(refusal(changes.with_instruction, wrong, None, None, None), not_usable('system'))
            self.assertEqual(refusal(changes.with_instruction, SYSTEM, wrong, None, None), not_usable('kind'))
            self.assertEqual(refusal(changes.with_instruction, SYSTEM, 'main', wrong, None), not_usable('place'))
        self.assertEqual(refusal(changes.with_instruction, SYSTEM, 'main', 7, None), not_usable('place'))

    def test_exchanged(self):
        for system in ALL:
            for old in system:
                for new in system:
                    right = tuple((name, slots, tuple(
                        ('fork', new[0], *place[2:]) if place[:2] == ('fork', old[0]) else place for place in places))
                        for name, slots, places in system)
                    if is_system(right):
                        self.equal(changes.exchanged(system, old[0], new[0]), right)
                    else:
                        self.assertEqual(refusal(changes.exchanged, system, old[0], new[0]), not_usable('new'))
        self.assertEqual(refusal(changes.exchanged, SYSTEM, 'lib', 'main'), not_usable('new'))
        self.assertEqual(refusal(changes.exchanged, SYSTEM, 'lib', 'work'), not_usable('new'))
        for wrong in odd_values() + ['nosuch', LIB, 0]:
            self.assertEqual(refusal(changes.exchanged, SYSTEM, wrong, None), not_usable('old'))
            self.assertEqual(refusal(changes.exchanged, SYSTEM, 'main', wrong), not_usable('new'))
        self.assertEqual(refusal(changes.exchanged, (), None, None), not_usable('system'))

    def test_renamed(self):
        for system in ALL:
            for old in system:
                told = changes.renamed(system, old[0], 'fresh')
                self.assertTrue(is_system(told))
                self.equal(told, tuple(('fresh' if name == old[0] else name, slots, tuple(
                    ('fork', 'fresh', *place[2:]) if place[:2] == ('fork', old[0]) else place for place in places))
                    for name, slots, places in system))
                self.equal(changes.renamed(told, 'fresh', old[0]), system)
        self.assertEqual(refusal(changes.renamed, SYSTEM, 'lib', 'lib'), not_usable('new'))
        self.assertEqual(refusal(changes.renamed, SYSTEM, 'lib', 'main'), not_usable('new'))
        for wrong in odd_values() + [LIB, 0]:
            self.assertEqual(refusal(changes.renamed, SYSTEM, wrong, None), not_usable('old'))
            self.assertEqual(refusal(changes.renamed, SYSTEM, 'lib', wrong), not_usable('new'))
        self.assertEqual(refusal(changes.renamed, SYSTEM, 'nosuch', 'a'), not_usable('old'))
        self.assertEqual(refusal(changes.renamed, (), 'nosuch', 'a'), not_usable('system'))

    def test_renamed_keeps_tags_and_slots(self):
        system = (('a', ('b',), (('fork', 'b', 'b', 'b', 1), ('wait', (('b', 0, 0, 0),), -1, 0, ('b',)))),
                  ('b', (), (EXIT,)))
        self.equal(changes.renamed(system, 'b', 'c'),
                   (('a', ('b',), (('fork', 'c', 'b', 'b', 1), ('wait', (('b', 0, 0, 0),), -1, 0, ('b',)))),
                    ('c', (), (EXIT,))))
        self.equal(changes.retagged(system, 'b', 'c'),
                   (('a', ('b',), (('fork', 'b', 'c', 'b', 1), ('wait', (('b', 0, 0, 0),), -1, 0, ('c',)))),
                    ('b', (), (EXIT,))))

    def test_retagged(self):
        def tagged(place, old, new):
            if place[0] == 'fork' and place[2] == old:
                return ('fork', place[1], new, place[3], place[4])
            if place[0] in ('wait', 'poll') and old in place[-1]:
                return place[:-1] + (tuple(sorted({*place[-1], new} - {old} | {new})),)
            return place

        for system in ALL:
            for old in ('t', 'x', 'm', 'l', 'nosuch'):
                for new in ('t', 'a', 'x', 'zz', old):
                    self.equal(changes.retagged(system, old, new), tuple(
                        (name, slots, tuple(tagged(place, old, new) for place in places))
                        for name, slots, places in system))
        for wrong in odd_values() + [0, ()]:
            self.assertEqual(refusal(changes.retagged, SYSTEM, wrong, None), not_usable('old'))
            self.assertEqual(refusal(changes.retagged, SYSTEM, 'l', wrong), not_usable('new'))
        self.assertEqual(refusal(changes.retagged, RUN, None, None), not_usable('system'))

    def exclusions(self, system):
        return [(kind[0], p, row[0]) for kind in system for p, place in enumerate(kind[2])
                if place[0] in ('wait', 'poll') and place[2] != -1 for row in place[1]]

    def test_excluded(self):
        rng = random.Random(18)
        for system in ALL:
            possible = self.exclusions(system)
            for _ in range(5):
                chosen = [exclusion for exclusion in possible if rng.random() < 0.5]
                given = chosen + [exclusion for exclusion in chosen if rng.random() < 0.5]
                rng.shuffle(given)
                right = tuple((name, slots, tuple(
                    (place[0], tuple(row for row in place[1] if (name, p, row[0]) not in chosen), *place[2:])
                    if place[0] in ('wait', 'poll') else place for p, place in enumerate(places)))
                    for name, slots, places in system)
                self.equal(changes.excluded(system, *given), right)
                self.assertTrue(is_system(right))

    def test_excluded_refusals(self):
        right = ('main', 2, 'h')
        self.equal(changes.excluded(SYSTEM, right)[0][2][2], ('wait', (), 4, 5, ('m',)))
        self.equal(changes.excluded(SYSTEM, right, right), changes.excluded(SYSTEM, right))
        self.equal(changes.excluded(SYSTEM), SYSTEM)
        wrongs = odd_values() + [(), ('main', 2), ('main', 2, 'h', 0), list(right), ('lib', 2, 'h'), ('work', 1, 'h'),
                                 ('main', 4, 'h'), ('main', 3, 'h'), ('main', 2, ''), ('main', 2, 'a'), ('main', 7, 'h'),
                                 ('main', True, 'h'), ('main', -5, 'h'), ('main', 0, 'h'), (None, 2, 'h'), ('main', 2, None),
                                 (['main'], 2, 'h'), ('main', [2], 'h'), ('main', 2, ['h']), ('main', 2, ('h',))]
        for wrong in wrongs:
            self.assertEqual(refusal(changes.excluded, SYSTEM, wrong), not_usable('exclusions', 0))
            self.assertEqual(refusal(changes.excluded, SYSTEM, right, right, wrong, None), not_usable('exclusions', 2))
        self.assertEqual(refusal(changes.excluded, (), None), not_usable('system'))

    def test_turned(self):
        self.equal(changes.turned((LIB,)), (('lib', (), (('exit', 1),)),))
        for system in ALL:
            told = changes.turned(system)
            self.equal(changes.turned(told), system)
            for kind, other in zip(system, told):
                self.equal(kind[:2], other[:2])
                for place, changed in zip(kind[2], other[2]):
                    if place[0] == 'exit':
                        self.equal(changed, ('exit', {0: 1, 1: 0}[place[1]]))
                    elif place[0] in ('wait', 'poll'):
                        self.equal(changed, (place[0], tuple((a, c, b, d) for a, b, c, d in place[1]), *place[2:]))
                    else:
                        self.equal(changed, place)
        self.assertEqual(refusal(changes.turned, LIB), not_usable('system'))
        self.equal(changes.turned(system=BUSY)[0][2][6], ('wait', (('b', 7, 0, 8),), -1, 7, ()))

    def test_by_name(self):
        new = ('new', (), (EXIT,))
        self.assertEqual(changes.with_kind(system=(LIB,), kind=new, at=1), (LIB, new))
        self.assertEqual(changes.without_kind(system=(LIB, new), kind='new'), (LIB,))
        self.assertEqual(changes.with_instruction(system=(LIB,), kind='lib', place=0, instruction=('exit', 1)),
                         changes.turned((LIB,)))
        self.assertEqual(changes.exchanged(system=(WORK, LIB), old='lib', new='lib'), (WORK, LIB))
        self.assertEqual(changes.renamed(system=(LIB,), old='lib', new='a'), (('a', (), (EXIT,)),))
        self.assertEqual(changes.retagged(system=(WORK, LIB), old='x', new='x'), (WORK, LIB))

    def test_two_wrong_at_once(self):
        self.assertEqual(refusal(changes.with_instruction, SYSTEM, 'nosuch', 99, None), not_usable('kind'))
        self.assertEqual(refusal(changes.with_kind, SYSTEM, ('lib', (), (('go', (5,)),)), at=9), not_usable('at'))
        self.assertEqual(refusal(changes.exchanged, SYSTEM, 'nosuch', 'nosuch'), not_usable('old'))
        self.assertEqual(refusal(changes.retagged, SYSTEM, '', ''), not_usable('old'))


if __name__ == '__main__':
    unittest.main()

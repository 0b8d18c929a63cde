"""[20], [21]: systems as objects."""

import random
import unittest

from forkyields import systemchanges as changes
from forkyields.kinds import is_system
from forkyields.systemclasses import Excluded, System, Turned
from forkyields.systemreadings import read_system
from forkyields.systemtexts import system_text
from tests.samples import (
    BUSY, LIB, MAIN, RUN, SYSTEM, SYSTEMS, WORK, not_usable, odd_values, random_systems, refusal)

ALL = list(SYSTEMS) + random_systems(20, 25)
H = ('main', 2, 'h')
NEW = ('new', (), (('exit', 1),))


def objects(kinds):
    """Objects of each class, with the kinds that each has."""
    return [(System(kinds), kinds), (Excluded(kinds), kinds), (Turned(changes.turned(kinds)), kinds),
            (Turned(kinds), changes.turned(kinds))]


class SystemClassesTest(unittest.TestCase):
    def test_example(self):
        system = System.of(MAIN, WORK, LIB)
        self.assertEqual(
            [system('work').names_now, Excluded(SYSTEM, H)['main'][2][2], Turned(SYSTEM) == system],
            [('work', 'lib'), ('wait', (), 4, 5, ('m',)), False])

    def test_made(self):
        for wrong in odd_values() + [(), LIB, SYSTEM[:2], list(SYSTEM)]:
            self.assertEqual(refusal(System, wrong), not_usable('kinds'))
            self.assertEqual(refusal(Excluded, wrong, None), not_usable('kinds'))
            self.assertEqual(refusal(Turned, wrong), not_usable('kinds'))
        self.assertEqual(System(kinds=SYSTEM).kinds_now, SYSTEM)
        self.assertEqual(refusal(System.of), not_usable('kinds'))
        self.assertEqual(refusal(System.of, SYSTEM), not_usable('kinds'))
        self.assertEqual(refusal(System.of, MAIN, LIB), not_usable('kinds'))

    def test_properties(self):
        for kinds in ALL:
            for system, now in objects(kinds):
                self.assertEqual(system.kinds_now, now)
                self.assertEqual(system.names_now, tuple(kind[0] for kind in now))
                self.assertIs(type(system.names_now), tuple)
                for name in ('kinds_now', 'names_now'):
                    with self.assertRaises(AttributeError):
                        setattr(system, name, now)

    def test_parts(self):
        for kinds in ALL:
            for system, now in objects(kinds):
                self.assertEqual(len(system), len(now))
                self.assertEqual(list(system), list(now))
                self.assertEqual([kind for kind in system], list(now))
                for kind in now:
                    self.assertEqual(system[kind[0]], kind)
                    self.assertIs(kind[0] in system, True)
                for wrong in odd_values() + ['nosuch', 0, now[0], now, (now[0][0],), [now[0][0]], system]:
                    self.assertEqual(refusal(lambda: system[wrong]), not_usable('kind'))
                    self.assertIs(wrong in system, False)

    def test_equal(self):
        for kinds in ALL:
            for first, one in objects(kinds):
                for second, two in objects(kinds) + objects((LIB,)):
                    self.assertIs(first == second, one == two)
                    self.assertIs(first != second, one != two)
        system = System(SYSTEM)
        for other in [thing for thing in odd_values() if type(thing).__name__ not in ('Odd', 'System')] + [SYSTEM, RUN]:
            self.assertIs(system == other, False)
            self.assertIs(other == system, False)
        self.assertTrue(Excluded(SYSTEM) == System(SYSTEM) == Turned(changes.turned(SYSTEM)))

    def test_text(self):
        for kinds in ALL:
            for system, now in objects(kinds):
                self.assertEqual(str(system), system_text(now))
                self.assertEqual(System.read(str(system)), system)
        for text in ('', 'kind a -', 'kind a -\nexit 2', 'kind a -\nexit 0\n', 'kind a -\ngo 1'):
            self.assertEqual(refusal(System.read, text), refusal(read_system, text))
            self.assertIsNotNone(refusal(System.read, text=text))
        self.assertIs(type(System.read('kind a -\nexit 0')), System)

    def test_changed(self):
        rng = random.Random(20)
        added = [NEW, LIB, MAIN, WORK, ('new', (), (('fork', 'lib', 't', '', 0),))]
        for kinds in ALL:
            for system, now in objects(kinds):
                for kind in rng.sample(added, 3):
                    self.changed(lambda: system + kind, lambda: changes.with_kind(now, kind, at=len(now)))
                    self.changed(lambda: system.fronted(kind), lambda: changes.with_kind(now, kind, at=0))
                for name in [kind[0] for kind in now] + ['nosuch']:
                    self.changed(lambda: system - name, lambda: changes.without_kind(now, name))
                    at = [k for k, kind in enumerate(now) if kind[0] == name]
                    if at:
                        self.changed(lambda: system(name), lambda: now[at[0]:])
                self.assertEqual(system.kinds_now, now)

    def changed(self, made, right):
        expected = refusal(right)
        self.assertEqual(refusal(made), expected)
        if expected is None:
            self.assertIs(type(made()), System)
            self.assertEqual(made().kinds_now, right())

    def test_changed_by_wrong_values(self):
        for system in (System(SYSTEM), Excluded(SYSTEM, H), Turned(SYSTEM)):
            before = system.kinds_now
            for wrong in odd_values() + [(), SYSTEM, system, ('new', (), ()), list(NEW), ('new', (), (('go', (1,)),))]:
                self.assertEqual(refusal(lambda: system + wrong), not_usable('kind'))
                self.assertEqual(refusal(lambda: system.fronted(wrong)), not_usable('kind'))
            for wrong in odd_values() + [(), 'nosuch', LIB, 0]:
                self.assertEqual(refusal(lambda: system - wrong), not_usable('kind'))
                self.assertEqual(refusal(lambda: system(wrong)), not_usable('kind'))
            self.assertEqual(refusal(lambda: system - 'lib'), not_usable('kind'))
            self.assertEqual(refusal(lambda: system + LIB), not_usable('kind'))
            self.assertEqual(system.kinds_now, before)
            self.assertEqual(system('main').kinds_now, before)
            self.assertEqual(system.fronted(kind=NEW).names_now, ('new', 'main', 'work', 'lib'))
            self.assertEqual(system(kind='lib').names_now, ('lib',))

    def test_excluded(self):
        system = Excluded(SYSTEM, H, H)
        self.assertEqual(system.kinds_now, changes.excluded(SYSTEM, H))
        self.assertEqual(system.whole, SYSTEM)
        self.assertIs(type(system - 'main'), System)
        self.assertIsInstance(system, System)
        self.assertEqual(Excluded(kinds=SYSTEM).kinds_now, SYSTEM)
        for wrong in odd_values() + [('main', 3, 'h'), ('main', 2)]:
            self.assertEqual(refusal(Excluded, SYSTEM, H, wrong, None), not_usable('exclusions', 1))
        with self.assertRaises(AttributeError):
            system.whole = SYSTEM

    def test_turned(self):
        system = Turned(SYSTEM)
        self.assertEqual(system.kinds_now, changes.turned(SYSTEM))
        self.assertEqual(system.whole, SYSTEM)
        self.assertIsInstance(system, System)
        self.assertEqual(Turned(kinds=BUSY).whole, BUSY)
        self.assertTrue(is_system(system.kinds_now))
        self.assertFalse(isinstance(system, Excluded))

    def test_bases(self):
        self.assertEqual((Excluded.__bases__, Turned.__bases__, System.__bases__), ((System,), (System,), (object,)))


if __name__ == '__main__':
    unittest.main()

"""[15], [16]: what stands in a system."""

import random
import unittest

from forkyields import systemparts as parts
from tests.samples import BUSY, LIB, SYSTEM, SYSTEMS, not_usable, odd_values, random_systems, refusal, same

ALL = list(SYSTEMS) + random_systems(16, 40)


def targets(instruction):
    """The targets, by the positions at which the document puts them."""
    word, rest = instruction[0], instruction[1:]
    if word == 'go':
        return set(rest[0])
    if word == 'fork':
        return {rest[3]}
    if word in ('kill', 'release'):
        return {rest[1]}
    if word == 'exit':
        return set()
    found = {rest[2]} | ({rest[3]} if word == 'poll' else set()) | ({rest[1]} - {-1})
    for row in rest[0]:
        found |= set(row[1:])
    return found


class SystemPartsTest(unittest.TestCase):
    def equal(self, told, right):
        self.assertTrue(same(told, right), (told, right))

    def test_kinds(self):
        for system in ALL:
            names = tuple(kind[0] for kind in system)
            self.equal(parts.kind_names(system), names)
            for i, name in enumerate(names):
                self.equal(parts.index_of(system, name), i)
                self.equal(parts.slots_of(system, name), system[i][1])
                self.equal(parts.cut_at(system, name), system[i:])

    def test_places(self):
        for system in ALL:
            for name, slots, places in system:
                forks = sorted((p, *place[1:4]) for p, place in enumerate(places) if place[0] == 'fork')
                self.equal(parts.forks_in(system, name), tuple(forks))
                waits = [p for p, place in enumerate(places) if place[0] in ('wait', 'poll')]
                self.equal(parts.waits_in(system, name), tuple(waits))
                for p, place in enumerate(places):
                    self.equal(parts.next_places(system, name, p), tuple(sorted(targets(place))))
                    self.waiting(system, name, p, place)

    def waiting(self, system, name, p, place):
        if place[0] not in ('wait', 'poll'):
            self.assertEqual(refusal(parts.in_range, system, name, p), not_usable('place'))
            for tag in ('x', 'nosuch', None, ''):
                self.assertEqual(refusal(parts.is_meant, system, name, p, tag), not_usable('place'))
            return
        right = {row[0] for row in place[1]} | ({''} if place[2] != -1 else set())
        self.equal(parts.in_range(system, name, p), tuple(sorted(right)))
        for tag in ('m', 'l', 'x', 't', 'u', 'v', 'w', 'nosuch'):
            self.assertIs(parts.is_meant(system, name, p, tag), tag in place[-1])
        for tag in odd_values() + [(), ('a',), 1]:
            self.assertEqual(refusal(parts.is_meant, system, name, p, tag), not_usable('tag'))

    def test_tags(self):
        self.assertEqual(parts.tags_in(SYSTEM), ('l', 'm', 'x'))
        self.assertEqual(parts.tags_in(BUSY), ('w', 'x', 'y', 'z'))
        self.assertEqual(parts.tags_in((LIB,)), ())
        for system in ALL:
            tags = set()
            for kind in system:
                for place in kind[2]:
                    tags |= {place[2]} if place[0] == 'fork' else set()
                    tags |= set(place[-1]) if place[0] in ('wait', 'poll') else set()
            self.equal(parts.tags_in(system), tuple(sorted(tags)))

    def test_by_name(self):
        self.assertEqual(parts.kind_names(system=SYSTEM), ('main', 'work', 'lib'))
        self.assertEqual(parts.index_of(system=SYSTEM, kind='lib'), 2)
        self.assertEqual(parts.slots_of(system=SYSTEM, kind='main'), ('h',))
        self.assertEqual(parts.next_places(system=SYSTEM, kind='main', place=2), (3, 4, 5))
        self.assertEqual(parts.forks_in(system=SYSTEM, kind='main'), ((0, 'lib', 'l', 'h'), (1, 'work', 'm', '')))
        self.assertEqual(parts.waits_in(system=SYSTEM, kind='main'), (2, 3, 4))
        self.assertEqual(parts.tags_in(system=SYSTEM), ('l', 'm', 'x'))
        self.assertEqual(parts.in_range(system=SYSTEM, kind='main', place=2), ('', 'h'))
        self.assertIs(parts.is_meant(system=SYSTEM, kind='main', place=2, tag='m'), True)
        self.assertEqual(parts.cut_at(system=SYSTEM, kind='work'), SYSTEM[1:])

    def test_wrong_system(self):
        for wrong in odd_values() + [(), list(SYSTEM), SYSTEM[0], SYSTEM[:2], SYSTEM[::-1]]:
            for call in (parts.kind_names, parts.tags_in):
                self.assertEqual(refusal(call, wrong), not_usable('system'))
            for call in (parts.index_of, parts.slots_of, parts.forks_in, parts.waits_in, parts.cut_at):
                self.assertEqual(refusal(call, wrong, None), not_usable('system'))
            for call in (parts.next_places, parts.in_range):
                self.assertEqual(refusal(call, wrong, None, None), not_usable('system'))
            self.assertEqual(refusal(parts.is_meant, wrong, None, None, None), not_usable('system'))

    def test_wrong_kind(self):
        for wrong in odd_values() + ['nosuch', 0, ('main',), SYSTEM[0], 'mai']:
            for call in (parts.index_of, parts.slots_of, parts.forks_in, parts.waits_in, parts.cut_at):
                self.assertEqual(refusal(call, SYSTEM, wrong), not_usable('kind'))
            for call in (parts.next_places, parts.in_range):
                self.assertEqual(refusal(call, SYSTEM, wrong, None), not_usable('kind'))
            self.assertEqual(refusal(parts.is_meant, SYSTEM, wrong, None, None), not_usable('kind'))

    def test_wrong_place(self):
        for wrong in odd_values() + ['a', 7, 10 ** 59, (2,)]:
            for call in (parts.next_places, parts.in_range):
                self.assertEqual(refusal(call, SYSTEM, 'main', wrong), not_usable('place'))
            self.assertEqual(refusal(parts.is_meant, SYSTEM, 'main', wrong, None), not_usable('place'))
        self.assertEqual(refusal(parts.next_places, SYSTEM, 'lib', 1), not_usable('place'))

    def test_two_wrong(self):
        rng = random.Random(16)
        bad = odd_values()
        names = ('system', 'kind', 'place', 'tag')
        for _ in range(300):
            values = [SYSTEM, 'main', 2, 'm']
            wrong = sorted(rng.sample(range(4), 2))
            for k in wrong:
                values[k] = rng.choice(bad)
            self.assertEqual(refusal(parts.is_meant, *values), not_usable(names[wrong[0]]))


if __name__ == '__main__':
    unittest.main()

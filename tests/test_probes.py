"""[41], [42]: probes, place by place, and what they show."""

import unittest

from forkyields.accounts import account_of, reach_of
from forkyields.kinds import is_kind
from forkyields.numbersets import has_number
from forkyields.probes import reach_probe, settled_probe
from forkyields.systemchanges import with_kind
from forkyields.tables import table_of
from tests.samples import LIB, SYSTEM, SYSTEMS, WORK, lively_systems, not_usable, odd_values, refusal, same

LOOP = ('loop', (), (('go', (1, 2)), ('fork', 'lib', 'm', '', 0), ('exit', 0)))


def right_probe(kind, code, number, called, settled):
    """The probe, word for word: places are laid out first, targets follow from where they lie."""
    words = ['fork'] + ['kill'] * (code == 2) + ['slot'] + ['take'] * (number - 1) + ['look', 'good', 'last']
    last = len(words) - 1
    places = []
    for p, word in enumerate(words):
        row = [last, last, last]
        row[code] = p + 1
        places.append({
            'fork': ('fork', kind, 'x', 'a', p + 1), 'kill': ('kill', 'a', p + 1),
            'slot': ('wait', (('a', *row),), -1, last, ()), 'take': ('wait', (), p + 1, last, ()),
            'look': ('wait', (), last, p + 1, ()) if settled else ('poll', (), last, last, p + 1, ()),
            'good': ('exit', 0), 'last': ('exit', 1)}[word])
    return ((called, ('a',), tuple(places)), last - 1)


class ProbesTest(unittest.TestCase):
    def test_example(self):
        self.assertEqual(reach_probe('work', 0, 1), (
            ('probe', ('a',), (('fork', 'work', 'x', 'a', 1), ('wait', (('a', 2, 4, 4),), -1, 4, ()),
                               ('poll', (), 4, 4, 3, ()), ('exit', 0), ('exit', 1))), 3))

    def test_by_hand(self):
        self.assertEqual(settled_probe('lib', 2, 3), (
            ('probe', ('a',), (('fork', 'lib', 'x', 'a', 1), ('kill', 'a', 2), ('wait', (('a', 7, 7, 3),), -1, 7, ()),
                               ('wait', (), 4, 7, ()), ('wait', (), 5, 7, ()), ('wait', (), 7, 6, ()), ('exit', 0),
                               ('exit', 1))), 6))
        self.assertEqual(settled_probe('lib', 1, 1, called='q'), (
            ('q', ('a',), (('fork', 'lib', 'x', 'a', 1), ('wait', (('a', 4, 2, 4),), -1, 4, ()), ('wait', (), 4, 3, ()),
                           ('exit', 0), ('exit', 1))), 3))

    def test_place_by_place(self):
        for kind in ('work', 'a', 'abcdefgh'):
            for code in (0, 1, 2):
                for number in (1, 2, 3, 7, 60):
                    for settled, call in ((True, settled_probe), (False, reach_probe)):
                        self.assertTrue(same(call(kind, code, number), right_probe(kind, code, number, 'probe', settled)))
                        told = call(kind=kind, code=code, number=number, called='other')
                        self.assertTrue(same(told, right_probe(kind, code, number, 'other', settled)))
                        self.assertTrue(is_kind(told[0]))
                        self.assertEqual(told[0][2][told[1]], ('exit', 0))

    def test_refused(self):
        for call in (settled_probe, reach_probe):
            for wrong in odd_values() + ['Kind', 0, ('a',)]:
                self.assertEqual(refusal(call, wrong, None, None, called=None), not_usable('kind'))
            for wrong in odd_values() + [3, '0', (0,)]:
                self.assertEqual(refusal(call, 'work', wrong, None, called=None), not_usable('code'))
            for wrong in odd_values() + [0, '1', (1,)]:
                self.assertEqual(refusal(call, 'work', 0, wrong, called=None), not_usable('number'))
            for wrong in odd_values() + ['work', 'Name', 0, ('a',)]:
                self.assertEqual(refusal(call, 'work', 0, 1, called=wrong), not_usable('called'))
            self.assertEqual(refusal(call, 'probe', 0, 1), not_usable('called'))
            with self.assertRaises(TypeError):
                call('work', 0, 1, 'probe')

    def test_what_they_show(self):
        met = set()
        systems = list(SYSTEMS) + [(LOOP, LIB), (WORK, LIB)] + lively_systems(410, 20)
        for system in systems:
            for kind in system:
                account = account_of(system, kind[0])
                for code in (0, 1, 2):
                    reach = reach_of(system, kind[0], code)
                    for number in (1, 2, 3, 5):
                        settled = has_number(account[code][0], number)
                        self.assertEqual(self.comes_to_place(system, settled_probe(kind[0], code, number)), settled)
                        reached = reach is None or number <= reach
                        self.assertEqual(self.comes_to_place(system, reach_probe(kind[0], code, number)), reached)
                        met.add((settled, reached))
        self.assertEqual(len(met), 4)

    def comes_to_place(self, system, told):
        kind, place = told
        return place in [row[0][0] for row in table_of(with_kind(system, kind), kind[0])]

    def test_large_numbers(self):
        for number, code in ((60, 0), (59, 2)):
            self.assertTrue(self.comes_to_place((LOOP, LIB), settled_probe('loop', code, number)))
            self.assertTrue(self.comes_to_place((LOOP, LIB), reach_probe('loop', code, number)))
            self.assertFalse(self.comes_to_place(SYSTEM, settled_probe('main', code, number)))
            self.assertFalse(self.comes_to_place(SYSTEM, reach_probe('main', code, number)))


if __name__ == '__main__':
    unittest.main()

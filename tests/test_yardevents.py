"""[61]: which values are events by kind."""

import unittest

from forkyields.yardevents import is_event
from tests.samples import Odd, odd_values, spoiled
from tests.yardmodel import event_fits

EVENTS = [('step', (0, 'fork', -1)), ('step', (10 ** 59, 'take', 10 ** 59)), ('step', (3, 'go', 0)), ('step', (0, 'none', -1)),
          ('step', (0, 'later', -1)), ('step', (0, 'kill', -1)), ('step', (0, 'release', -1)), ('step', (0, 'exit', -1)),
          ('exclude', 'main', 2, 'h'), ('allow', 'abcdefgh', 10 ** 59, 'a'), ('guard', 'on'), ('guard', 'off'), ('mark', 'a'),
          ('mark', 'on'), ('mark', 'step')]


class YardEventsTest(unittest.TestCase):
    def test_events(self):
        for event in EVENTS:
            self.assertIs(is_event(thing=event), True)
            self.assertTrue(event_fits(event))

    def test_changed_in_one_place(self):
        met = {True: 0, False: 0}
        for event in EVENTS:
            for wrong in spoiled(event):
                self.assertIs(is_event(wrong), event_fits(wrong), wrong)
                met[is_event(wrong)] += 1
        self.assertTrue(min(met.values()) > 30, met)

    def test_words_exchanged(self):
        words = ['step', 'exclude', 'allow', 'guard', 'mark', 'Mark', '', 'undo', 'on', None, True, 0, ('mark',), Odd()]
        for event in EVENTS:
            for word in words:
                thing = (word, *event[1:])
                self.assertIs(is_event(thing), event_fits(thing))
            for other in EVENTS:
                for thing in ((event[0], *other[1:]), (*event, *other[1:]), (event, other), event + other):
                    self.assertIs(is_event(thing), event_fits(thing))

    def test_values_of_every_kind(self):
        for wrong in odd_values() + [0, 1, 'step', 'mark a', ('mark',), ('guard',), ('step',), ('exclude',), (), ('mark', 'a', 'b'),
                                     ('guard', 'On'), ('guard', ''), ('guard', True), ('guard', None), ('exclude', 'main', True, 'h'),
                                     ('exclude', 'main', 2, ''), ('allow', 'main', -1, 'h'), ('step', 0, 'fork', -1)]:
            self.assertIs(is_event(wrong), False)
            self.assertIs(is_event(('step', wrong)), False)
            self.assertIs(is_event(('guard', wrong)), False)
            self.assertIs(is_event(('mark', wrong)), event_fits(('mark', wrong)))


if __name__ == '__main__':
    unittest.main()

"""[73], [74]: a desk."""

import random
import re
import unittest

from forkyields.desks import Desk
from forkyields.pictures import picture
from forkyields.runtexts import step_text
from forkyields.systemtexts import system_text
from forkyields.yards import Yard
from forkyields.yardtexts import event_line, log_lines
from tests.samples import BUSY, KEEPER, LIB, SYSTEM, WORK, lively_systems, not_usable, odd_values, refusal
from tests.test_yards import DAYS, invalid
from tests.wordgrammar import NAME, NUMBER, mangled
from tests.yardgrammar import wrong_event, wrong_head, wrong_tail
from tests.yardmodel import Day, likely_events


def row_error(row):
    return ('InvalidRow', {'row': row})


def listed(parts, between=' '):
    return between.join(map(str, parts)) if parts else '-'


def answers(yard, system):
    """The answer to each plain row, by the words of [73], and a yard beside the desk."""
    found = {
        'log': listed([event_line(event) for event in yard.log()[1:]], ' / '),
        'next': listed([step_text(step) for step in yard.next_now], ' / '), 'tree': listed(picture(system, yard.run_now), ' / '),
        'table': listed(yard.table(), ' / '), 'system': listed(system_text(yard.system_now).split('\n'), ' / '),
        'waiting': listed(yard.waiting_now), 'guard': yard.guard_now,
        'excluded': listed(['@'.join(map(str, row)) for row in yard.excluded_now]),
        'foreign': listed(['@'.join(map(str, row[:5])) for row in yard.foreign_now]),
        'tally': listed([f'{word}@{many}' for word, many in yard.tally()])}
    for row in yard.tree_now:
        if row[4] == -1:
            place, contents = yard.state_now(row[0])
            found[f'lying {row[0]}'] = listed(yard.lying(row[0]))
            found[f'state {row[0]}'] = ' '.join([str(place)] + [f'{part[0]}@{part[1]}' if part else '-' for part in contents])
    for name in ('a', 'b', 'c', 'dawn', 'noon'):
        if refusal(yard.taken_since, name) is None:
            found[f'taken {name}'] = listed(yard.taken_since(name))
            found[f'forked {name}'] = listed(yard.forked_since(name))
    return found


class DeskTest(unittest.TestCase):
    def test_example(self):
        desk = Desk(SYSTEM)
        self.assertEqual([desk.say(row) for row in ('step 0 fork', 'next', 'bars guard off', 'state 0', 'undo', 'log')],
                         ['2', '0 fork / 1 exit', 'same', '1 0@-1', 'step 0 fork', '-'])

    def test_each_row(self):
        """Each answer, against a yard beside the desk, on many days."""
        rng = random.Random(730)
        met = {}
        for system in DAYS * 2 + lively_systems(731, 15):
            desk, yard, day = Desk(system=system), Yard(system), Day(system)
            for _ in range(60):
                event = rng.choice(likely_events(rng, day))
                line = event_line(event)
                reason = day.reason(event)
                self.assertEqual(desk.say(row=f'bars {line}'), '-' if reason is None else reason)
                if rng.random() < 0.1 and day.events:
                    self.assertEqual(desk.say('undo'), event_line(yard.undo()))
                    day = Day(system, 'off', day.events[:-1])
                elif reason is None:
                    day.do(event)
                    self.assertEqual(desk.say(line), str(yard.happen(event)))
                else:
                    self.assertEqual(refusal(desk.say, line), invalid(event, reason))
                if rng.random() < 0.4:
                    for row, answer in answers(yard, system).items():
                        self.assertEqual(desk.say(row), answer)
                        self.assertIs(type(answer), str)
                        word = row.split(' ')[0] + ('-' if answer == '-' else '')
                        met[word] = met.get(word, 0) + 1
        for word in ('log', 'next', 'waiting', 'excluded', 'foreign', 'tally', 'lying', 'taken', 'forked'):
            self.assertTrue(met.get(word, 0) > 5 and met.get(word + '-', 0) > 5, (word, met))

    def test_by_hand(self):
        desk = Desk(SYSTEM)
        for row, answer in (('log', '-'), ('next', '0 fork'), ('tree', '  0 main      -1 at 0'), ('table', '  0 main      0  0 goes'),
                            ('waiting', '-'), ('guard', 'off'), ('excluded', '-'), ('foreign', '-'), ('tally', '-'), ('lying 0', '-'),
                            ('state 0', '0 -'), ('mark dawn', '1'), ('step 0 fork', '2'), ('step 0 fork', '3'), ('step 1 exit', '3'),
                            ('lying 0', '1'), ('state 0', '2 0@0'), ('state 2', '0'), ('forked dawn', '1 2'), ('taken dawn', '-'),
                            ('exclude main 2 h', '3'), ('excluded', 'main@2@h'), ('waiting', '0'), ('bars step 0 take 1', 'number'),
                            ('table', '  0 main      2  1 waits / '
                                      '  2 work      0  0 goes'), ('allow main 2 h', '3'), ('bars step 0 take 1', '-'),
                            ('step 0 take 1', '2'), ('foreign', '3@0@2@1@l'), ('taken dawn', '1'), ('tally', 'exit@1 fork@2 take@1'),
                            ('guard on', '2'), ('guard', 'on'), ('mark noon', '2'), ('forked noon', '-'),
                            ('log', 'mark dawn / step 0 fork / step 0 fork / step 1 exit / exclude main 2 h / allow main 2 h / '
                                    'step 0 take 1 / guard on / mark noon'), ('next', '2 fork'),
                            ('tree', '  0 main      -1 at 3 /   2 work       0 at 0')):
            self.assertEqual(desk.say(row), answer, row)
        self.assertEqual(desk.say('system'), system_text(SYSTEM).replace('\n', ' / '))

    def test_new_yards(self):
        desk = Desk(SYSTEM)
        desk.say('step 0 fork')
        for system, guard in ((BUSY, 'on'), (SYSTEM, 'off'), (KEEPER, 'off'), ((LIB,), 'on')):
            self.assertEqual(desk.say('\n'.join(log_lines((('yard', system, guard),)))), 'ok')
            self.assertEqual([desk.say(row) for row in ('log', 'guard', 'system')],
                             ['-', guard, system_text(system).replace('\n', ' / ')])
            desk.say('mark a')
        for lines in (log_lines((('yard', SYSTEM, 'on'), ('mark', 'a'))), ['yard on 0'], ['yard on 2', 'kind lib -'], ['yard on 2', 'kind lib -', 'go 3'],
                      ['yard on 2', 'kind lib -', 'exit 0', ''], ['yard off 2', 'kind lib -', 'exit 0', 'guard on'], ['yard'],
                      ['yard on 2', 'kind lib -', 'exit 0', 'yard on 2', 'kind lib -', 'exit 0'], ['', 'yard on 2', 'kind lib -', 'exit 0']):
            row = '\n'.join(lines)
            self.assertEqual(refusal(desk.say, row), row_error(row))
        self.assertEqual([desk.say('log'), desk.say('guard')], ['mark a', 'on'])

    def is_row(self, row):
        """Whether a string is one of the rows of [73]."""
        words = row.split(' ')
        if wrong_event(row) is None or (words[0] == 'bars' and len(words) > 1 and wrong_event(row[5:]) is None):
            return True
        if words[0] == 'yard' and wrong_head(row.split('\n')) is None:
            many = int(row.split('\n')[0].split(' ')[2])
            return wrong_tail(row.split('\n')) is None and len(row.split('\n')) == many + 1
        if len(words) == 1:
            return row in ('undo', 'log', 'next', 'tree', 'table', 'system', 'waiting', 'guard', 'excluded', 'foreign', 'tally')
        forms = {'lying': NUMBER, 'state': NUMBER, 'taken': NAME, 'forked': NAME}
        return len(words) == 2 and words[0] in forms and bool(re.fullmatch(forms[words[0]], words[1]))

    def test_other_rows(self):
        rng = random.Random(732)
        rows = ['log', 'next', 'tree', 'table', 'system', 'waiting', 'guard', 'excluded', 'foreign', 'tally', 'undo', 'lying 0', 'state 0',
                'taken a', 'forked a', 'bars mark a', 'bars guard off', 'mark b', 'guard on', 'step 0 fork', 'exclude main 2 h',
                '\n'.join(log_lines((('yard', (LIB,), 'on'),)))]
        met = {True: 0, False: 0}
        for row in rows * 40:
            text = mangled(rng, row)
            desk = Desk(SYSTEM)
            desk.say('mark a')
            told = refusal(desk.say, text)
            if told is not None and told[0] == 'InvalidRow':
                self.assertEqual(told, row_error(text))
            right = self.is_row(text)
            if right and text.startswith('yard'):
                continue
            self.assertIs(told is not None and told[0] == 'InvalidRow', not right, text)
            met[right] += 1
        self.assertTrue(min(met.values()) > 50, met)

    def test_rows_by_hand(self):
        desk = Desk(SYSTEM)
        for row in ('', ' ', '\n', 'log ', ' log', 'log\n', 'Log', 'log log', 'undo ', 'undo undo', 'bars', 'bars ', 'bars log', 'bars undo',
                    'bars bars mark a', 'bars  mark a', 'bars mark a ', 'bars mark A', 'lying', 'lying ', 'lying x', 'lying 00', 'lying 0 0',
                    'lying -1', 'lying True', 'state', 'state main', 'taken', 'taken 0', 'taken A', 'taken a b', 'forked ', 'forked a\n',
                    'guard  on', 'guard maybe', 'next 0', 'tree 0', 'counts', 'step', 'step 0', 'mark', 'mark a\nmark b', 'log\nlog',
                    f'lying {"9" * 61}', f'state 1{"0" * 60}', 'state 0 ', 'excluded main', 'exclude main 2', 'x' * 4000):
            self.assertEqual(refusal(desk.say, row), row_error(row), row)
        self.assertEqual(desk.say('log'), '-')

    def test_errors_of_the_yard(self):
        desk = Desk(SYSTEM)
        for row, told in (('lying 1', not_usable('process')), (f'lying {"9" * 60}', not_usable('process')), ('state 99', not_usable('process')),
                          ('taken a', not_usable('name')), ('forked b', not_usable('name')), ('undo', ('NothingToUndo', {'steps': 0})),
                          ('step 0 exit', invalid(('step', (0, 'exit', -1)), 'word')), ('guard off', invalid(('guard', 'off'), 'same')),
                          ('step 9 fork', invalid(('step', (9, 'fork', -1)), 'process')), ('allow main 2 h', invalid(('allow', 'main', 2, 'h'), 'same')),
                          ('exclude main 3 h', invalid(('exclude', 'main', 3, 'h'), 'row'))):
            self.assertEqual(refusal(desk.say, row), told, row)
        for _ in range(20):
            desk.say('guard on')
            desk.say('guard off')
        self.assertEqual(refusal(desk.say, 'mark a'), invalid(('mark', 'a'), 'full'))
        self.assertEqual([desk.say('bars mark a'), desk.say('next'), desk.say('undo'), desk.say('bars mark a')], ['full', '0 fork', 'guard off', '-'])

    def test_counts(self):
        desk = Desk(SYSTEM)
        self.assertEqual(desk.counts(), (0, 0))
        for many, row in enumerate(('log', 'x', 'undo', 'step 0 fork', 'step 0 exit', 'lying 9', '', 'taken a', 'bars mark a', 'bars x',
                                    '\n'.join(log_lines((('yard', BUSY, 'on'),))), 'guard', 'yard on 0')):
            refusal(desk.say, row)
            self.assertEqual(desk.counts(), (many + 1, many + 1))
        self.assertEqual(desk.counts(), (13, 13))

    def test_two_desks(self):
        one, two = Desk(SYSTEM), Desk(SYSTEM)
        one.say('step 0 fork')
        one.say('mark a')
        self.assertEqual([two.say('log'), two.counts(), one.counts()], ['-', (1, 1), (2, 2)])
        two.say('\n'.join(log_lines((('yard', (WORK, LIB), 'on'),))))
        self.assertEqual([one.say('guard'), one.say('log'), two.say('guard')], ['off', 'step 0 fork / mark a', 'on'])

    def test_refused(self):
        for wrong in odd_values() + [(), SYSTEM[:2]]:
            self.assertEqual(refusal(Desk, wrong), not_usable('system'))


if __name__ == '__main__':
    unittest.main()

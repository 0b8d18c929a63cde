"""[49], [50]: what comes to lie outside, papers of it and their check."""

import random
import unittest

from forkyields.errors import InvalidPaper
from forkyields.exclusions import exclusions_of
from forkyields.outside import outside_paper, outside_tags
from forkyields.outsidechecker import lets_outside
from forkyields.systemchanges import excluded
from forkyields.systemparts import tags_in, waits_in
from forkyields.tagtables import tag_account
from forkyields.takers import can_take, comes, foreign_takes
from tests.brute import CODE, TAG, all_trees
from tests.model import random_run
from tests.ruleplay import ends, played_tables
from tests.samples import (
    BUSY, KEEPER, LIB, MAIN, RUN, SYSTEM, SYSTEMS, WORK, lively_systems, not_usable, odd_values, random_systems, refusal, same,
    spoiled)
from tests.test_tablechecker import all_states, changed, paper
from tests.twoforms import form_fault, least_tables, plays

NONE = ((), (), 0)
ANY = ((), (0,), 1)
FROM_1 = ((), (1,), 1)
END = RUN + ((1, 'exit', -1), (0, 'take', 1), (0, 'exit', -1))
# The tag of the deepest process comes outside through three layers; the second layer is killed, the others end.
LAYERS = (('one', ('a',), (('fork', 'two', 'p', 'a', 1), ('kill', 'a', 2), ('exit', 0))),
          ('two', (), (('fork', 'three', 'q', '', 1), ('go', (1,)))),
          ('three', (), (('fork', 'lib', 'r', '', 1), ('exit', 1))), LIB)
# What is in the slot is taken for sure, or the process goes on for ever.
CLEAN = (('clean', ('a',), (('fork', 'lib', 's', 'a', 1), ('wait', (('a', 2, 2, 2),), -1, 1, ('s',)), ('exit', 0))), LIB)
STAYS = (('stays', (), (('fork', 'lib', 's', '', 1), ('go', (1,)), ('exit', 0))), LIB)
LOOP = (('loop', (), (('go', (1, 2)), ('fork', 'work', 'm', '', 0), ('exit', 0))), WORK, LIB)


def rows_outside(kind, rows, tag):
    """The indexes of the rows that show a process outside, by the words of [49]."""
    found = []
    for k, ((place, contents), settled, unsettled, ws, wu) in enumerate(rows):
        dead = [kind[2][content[0]][2] for content in contents if content and content[1] != -1]
        if kind[2][place][0] == 'exit' and (settled, unsettled) != (NONE, NONE) and (tag in dead or (ws, wu) != (NONE, NONE)):
            found.append(k)
    return found


def fault_of(system, tag, thing):
    """The first fault of any value as an outside paper; None if it is one."""
    fault = form_fault(system, tag, thing)
    if fault is not None:
        return fault
    if thing[0] == 'tables':
        rows = rows_outside(system[0], thing[1][0], tag)
        return ('number', rows[0]) if rows else None
    found = [process for process in plays(system, thing[1]).there() if process.parent == -1 and process.code != -1]
    return None if tag in [process.tag for process in found] else ('outside', -1)


def fork_tags(system):
    return sorted({place[2] for kind in system for place in kind[2] if place[0] == 'fork'})


class OutsideTest(unittest.TestCase):
    def agree(self, system, tag, thing):
        fault = fault_of(system, tag, thing)
        self.assertEqual(refusal(lets_outside, system, tag, thing), fault and paper(*fault), (system, tag, thing))
        if fault is None:
            self.assertIs(lets_outside(system=system, tag=tag, thing=thing), thing[0] == 'run')
        return fault and fault[0]

    def test_example(self):
        self.assertEqual(outside_tags(SYSTEM), ('m', 'x'))
        self.assertIs(lets_outside(SYSTEM, 'm', ('run', END)), True)

    def test_by_hand(self):
        for system, tags in ((LAYERS, ('p', 'q', 'r')), (CLEAN, ()), (STAYS, ()), (LOOP, ('m', 'x')), ((WORK, LIB), ('x',)),
                             ((LIB,), ()), ((('front', (), (('exit', 0),)), *SYSTEM), ())):
            self.assertTrue(same(outside_tags(system=system), tags))

    def test_against_all_trees(self):
        met = 0
        for system in list(SYSTEMS) + [LAYERS, CLEAN, STAYS, LOOP] + lively_systems(490, 60, places=7):
            told = outside_tags(system)
            for tree in all_trees(system, 9, 3000):
                first = [proc for proc in tree if proc[TAG] == ''][0]
                lying = [proc[TAG] for proc in tree if proc[CODE] != -1 and proc is not first]
                self.assertTrue(set(lying) <= set(told))
                met += len(lying)
        self.assertGreater(met, 100)

    def test_against_the_rules(self):
        """[50] A tag lies outside exactly if the account with this tag of the first kind has a number for code 0 or 1."""
        met = {True: 0, False: 0}
        for system in list(SYSTEMS) + [LAYERS, CLEAN, STAYS, LOOP] + lively_systems(491, 60, places=8):
            told = outside_tags(system)
            for tag in fork_tags(system):
                account = tag_account(system, system[0][0], tag)
                right = any(pair != (NONE, NONE) for pair in account[:2])
                played = ends(system[0], played_tables(system, 8, tag)[0][system[0][0]], tag)
                self.assertIs(right, any(tagged for (code, _), pairs in played.items() if code < 2 for _, tagged in pairs))
                self.assertIs(tag in told, right)
                met[right] += 1
        self.assertTrue(min(met.values()) > 30, met)

    def test_own_papers(self):
        met = {True: 0, False: 0}
        for system in list(SYSTEMS) + [LAYERS, CLEAN, STAYS, LOOP] + random_systems(492, 30) + lively_systems(493, 60):
            told = outside_tags(system)
            for tag in (*tags_in(system), 'nosuch'):
                thing = outside_paper(system=system, tag=tag)
                self.assertEqual((type(thing), len(thing)), (tuple, 2))
                self.assertEqual(thing[0], 'run' if tag in told else 'tables')
                self.assertIs(lets_outside(system, tag, thing), tag in told)
                if thing[0] == 'run' or sum(map(len, thing[1])) < 30:
                    self.assertIsNone(self.agree(system, tag, thing))
                met[tag in told] += 1
        self.assertTrue(min(met.values()) > 30, met)

    def test_drawn_runs(self):
        """[9] (F5) What lies outside behind drawn runs is among the tags; what is taken in them can be taken."""
        rng = random.Random(494)
        words = {}
        for system in list(SYSTEMS) + [LAYERS, LOOP] * 5 + lively_systems(495, 50):
            told = outside_tags(system)
            run = random_run(rng, system, 60)
            lying = {process.tag for process in plays(system, run).there() if process.parent == -1 and process.code != -1}
            self.assertTrue(lying - {''} <= set(told))
            for tag in tags_in(system):
                k = rng.randrange(len(run)) if run else 0
                for thing in (run, run[:k], run[:k] + run[k + 1:]):
                    word = self.agree(system, tag, ('run', thing))
                    words[word] = words.get(word, 0) + 1
        self.assertTrue(min(words[word] for word in (None, 'outside', 'paper')) > 10, words)

    def test_no_fork_no_child(self):
        """[50] Without a fork with the tag in a kind that comes, it is in no take and nowhere outside."""
        met = 0
        for system in list(SYSTEMS) + lively_systems(496, 40):
            there = {place[2] for kind in system if comes(system, kind[0]) for place in kind[2] if place[0] == 'fork'}
            for tag in (*tags_in(system), 'nosuch'):
                if tag not in there:
                    met += 1
                    self.assertNotIn(tag, outside_tags(system))
                    for kind in system:
                        for place in waits_in(system, kind[0]):
                            self.assertFalse(can_take(system, kind[0], place, tag))
        self.assertGreater(met, 40)

    def test_more_exclusions(self):
        """[50] With more exclusions no take becomes possible."""
        met = 0
        for system in [SYSTEM, BUSY] + lively_systems(497, 60):
            for exclusion in exclusions_of(system):
                met += 1
                self.assertTrue(set(foreign_takes(excluded(system, exclusion))) <= set(foreign_takes(system)))
        self.assertGreater(met, 40)

    def test_runs_by_hand(self):
        for tag, run in (('m', END[:-1]), ('l', END), ('nosuch', END), ('m', ()), ('x', END), ('x', RUN)):
            self.assertEqual(self.agree(SYSTEM, tag, ('run', run)), 'outside')
        for run in (END[1:], END + END[-1:], list(END), None, 0, (None,), (END,)):
            self.assertEqual(refusal(lets_outside, SYSTEM, 'm', ('run', run)), paper('paper', -1))
        # What lies outside ends there, or is handed on there: living ones are not enough.
        killed = ((0, 'fork', -1), (1, 'fork', -1), (0, 'kill', -1), (0, 'exit', -1))
        self.assertEqual(self.agree(LAYERS, 'q', ('run', killed)), 'outside')
        self.assertIsNone(self.agree(LAYERS, 'p', ('run', killed)))
        later = killed + ((2, 'fork', -1), (3, 'exit', -1))
        self.assertEqual(self.agree(LAYERS, 'r', ('run', later)), 'outside')
        self.assertIsNone(self.agree(LAYERS, 'r', ('run', later + ((2, 'exit', -1),))))
        self.assertIsNone(self.agree(LAYERS, 'q', ('run', later + ((2, 'exit', -1),))))

    def test_tables_by_hand(self):
        """The first row of the first kind that shows one; rows of other kinds, or without numbers, show none."""
        tables = least_tables(SYSTEM, 'nosuch')
        self.assertIs(lets_outside(SYSTEM, 'nosuch', ('tables', tables)), False)
        for tag in ('m', 'x'):
            with_tag = least_tables(SYSTEM, tag)
            self.assertEqual(self.agree(SYSTEM, tag, ('tables', with_tag)), 'number')
        exits = ('exits', ('a',), (('fork', 'lib', 't', 'a', 1), ('exit', 0)))
        tables = least_tables((exits, LIB), 't')
        self.assertEqual([row[0] for row in tables[0]], [(0, ((),)), (1, ((0, -1),)), (1, ((0, 0),))])
        self.assertEqual(refusal(lets_outside, (exits, LIB), 't', ('tables', tables)), paper('number', 2))
        never = ('never', ('a',), (('exit', 0), ('fork', 'lib', 't', 'a', 0)))
        begin = ((0, ((),)), ((0,), (), 0), NONE, NONE, NONE)
        lib = least_tables((LIB,), 't')[0]
        for row, word in ((((0, ((1, 0),)), NONE, NONE, NONE, NONE), None), (((0, ((1, 0),)), ANY, NONE, NONE, NONE), 'number'),
                          (((0, ((1, -1),)), ANY, NONE, NONE, NONE), None), (((0, ((1, 1),)), NONE, ANY, NONE, NONE), 'number'),
                          (((0, ((1, -1),)), ANY, ANY, NONE, FROM_1), 'number'), (((0, ((1, -1),)), NONE, NONE, FROM_1, NONE), None)):
            self.assertEqual(self.agree((never, LIB), 't', ('tables', ((begin, row), lib))), word)
        self.assertEqual(self.agree((MAIN, never, WORK, LIB), 't', ('tables', least_tables((MAIN, never, WORK, LIB), 't'))), None)

    def test_larger_tables(self):
        for system in (SYSTEM, LAYERS, KEEPER):
            tables = tuple(tuple((state, ANY, ANY, FROM_1, FROM_1) for state in all_states(kind)) for kind in system)
            for tag in (*tags_in(system), 'nosuch'):
                rows = rows_outside(system[0], tables[0], tag)
                self.assertEqual(refusal(lets_outside, system, tag, ('tables', tables)), paper('number', rows[0]) if rows else None)

    def test_changed_tables(self):
        rng = random.Random(498)
        words = {}
        for system in [SYSTEM, LAYERS, CLEAN, STAYS, (WORK, LIB)] * 6 + lively_systems(499, 40, places=6):
            tag = rng.choice((*tags_in(system), 'nosuch'))
            tables = least_tables(system, tag)
            if sum(map(len, tables)) > 40:
                continue
            self.agree(system, tag, ('tables', tables))
            for _ in range(4):
                i = rng.randrange(len(tables))
                k = rng.randrange(len(tables[i]))
                row = list(tables[i][k])
                row[rng.randint(1, 4)] = rng.choice((NONE, FROM_1, ((1,), (), 0)))
                word = self.agree(system, tag, ('tables', changed(tables, i, k, tuple(row))))
                words[word] = words.get(word, 0) + 1
        self.assertTrue(min(words.get(word, 0) for word in (None, 'number', 'paper')) > 4, words)

    def test_several_faults(self):
        for thing, word in ((('run', END, None), 'shape'), (('Run', END), 'shape'), (['run', END], 'shape'), (('run',), 'shape'),
                            (('tables', END), 'paper'), (('run', least_tables(SYSTEM, 'm')), 'paper'), ((), 'shape'),
                            (('run', END[1:]), 'paper'), ((1, END), 'shape'), (('run', END[:3]), 'outside')):
            self.assertEqual(refusal(lets_outside, SYSTEM, 'm', thing), paper(word, -1))
        for thing in (('run', END[1:]), ('tables', ()), ('tables', least_tables(SYSTEM, 'm')[:2] + ((),))):
            with self.assertRaises(InvalidPaper) as caught:
                lets_outside(SYSTEM, 'm', thing)
            self.assertIsInstance(caught.exception.__cause__, InvalidPaper)

    def test_values_of_every_kind(self):
        words = set()
        for system, tag, thing in (((WORK, LIB), 'x', ('run', ((0, 'fork', -1), (1, 'exit', -1), (0, 'exit', -1)))),
                                   ((WORK, LIB), 'y', ('tables', least_tables((WORK, LIB), 'y')))):
            for wrong in spoiled(thing):
                words.add(self.agree(system, tag, wrong))
            for wrong in odd_values():
                self.assertEqual(self.agree(system, tag, wrong), 'shape')
                for word in ('run', 'tables'):
                    self.agree(system, tag, (word, wrong))
        self.assertEqual(words, {None, 'shape', 'paper', 'outside'})

    def test_refused(self):
        for wrong in odd_values() + [(), SYSTEM[:2]]:
            self.assertEqual(refusal(outside_tags, wrong), not_usable('system'))
            self.assertEqual(refusal(outside_paper, wrong, None), not_usable('system'))
            self.assertEqual(refusal(lets_outside, wrong, None, None), not_usable('system'))
        for wrong in odd_values() + ['', 'Tag', 'abcdefghi', 0, ('x',)]:
            self.assertEqual(refusal(outside_paper, SYSTEM, wrong), not_usable('tag'))
            self.assertEqual(refusal(lets_outside, SYSTEM, wrong, None), not_usable('tag'))


if __name__ == '__main__':
    unittest.main()

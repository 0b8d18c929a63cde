"""[47], and take_paper of [48]."""

import random
import unittest

from forkyields.runs import takes_in
from forkyields.systemparts import tags_in, waits_in
from forkyields.tagchecker import lets_tag_tables
from forkyields.takers import can_take, comes, foreign_takes, is_calm, take_paper
from forkyields.trees import tree_after
from tests.brute import Found
from tests.model import model_behind, random_run
from tests.ruleplay import ended, played_tables
from tests.samples import (
    BUSY, KEEPER, LIB, MAIN, SYSTEM, SYSTEMS, WORK, lively_systems, not_usable, odd_values, random_systems, refusal, same)
from tests.twoforms import rows_showing


def played_comers(system, tables):
    """The kinds that come, by counted states."""
    found = {system[0][0]}
    for kind in system:
        if kind[0] in found:
            for (place, _), _, _, _ in tables[kind[0]]:
                if kind[2][place][0] == 'fork':
                    found.add(kind[2][place][1])
    return found


def played_takes(system, tag):
    """All (kind, place) at which a child with the tag can be taken, by counted states."""
    tables = played_tables(system, 9, tag)[0]
    comers = played_comers(system, tables)
    found = set()
    for name, slots, places in system:
        for (place, contents), _, tagged, _ in tables[name] if name in comers else ():
            if places[place][0] in ('wait', 'poll'):
                held = dict(zip(slots, contents))
                looked = [held[row[0]] for row in places[place][1]]
                if (places[place][2] != -1 and tagged) or any(
                        ended(content) and places[content[0]][2] == tag for content in looked):
                    found.add((name, place))
    return found


class TakersTest(unittest.TestCase):
    def test_example(self):
        self.assertEqual([comes(SYSTEM, 'lib'), can_take(SYSTEM, 'main', 4, 'x'), foreign_takes(SYSTEM)],
                         [True, False, (('main', 2, 'l'), ('main', 2, 'x'), ('main', 3, 'x'))])
        self.assertEqual(take_paper(SYSTEM, 'main', 4, 'x')[0], 'tables')

    def test_comes(self):
        front = ('front', (), (('go', (0,)),))
        self.assertEqual([comes((front, *SYSTEM), name) for name in ('front', 'main', 'work', 'lib')], [True] + [False] * 3)
        far = ('far', (), (('wait', (), 1, 2, ()), ('fork', 'work', 't', '', 2), ('exit', 0)))
        self.assertEqual([comes((far, WORK, LIB), name) for name in ('far', 'work', 'lib')], [True, False, False])
        for system in list(SYSTEMS) + random_systems(470, 30) + lively_systems(471, 60):
            found = played_comers(system, played_tables(system, 12)[0])
            for kind in system:
                self.assertIs(comes(system=system, kind=kind[0]), kind[0] in found)

    def all_takes(self, system):
        return [(kind[0], place, tag) for kind in system for place in waits_in(system, kind[0])
                for tag in (*tags_in(system), 'nosuch')]

    def test_against_all_trees(self):
        met = 0
        for system in list(SYSTEMS) + lively_systems(472, 40, places=8):
            found = Found(system, 9, 3000)
            for kind, place, tag in found.takes:
                self.assertTrue(can_take(system, kind, place, tag))
                met += 1
            for name in {name for name, _ in found.places}:
                self.assertTrue(comes(system, name))
        self.assertGreater(met, 25)

    def test_against_the_rules(self):
        met = {True: 0, False: 0}
        for system in list(SYSTEMS) + lively_systems(473, 40, places=8):
            played = {tag: played_takes(system, tag) for tag in (*tags_in(system), 'nosuch')}
            foreign = []
            for kind, place, tag in self.all_takes(system):
                right = (kind, place) in played[tag]
                self.assertIs(can_take(system=system, kind=kind, place=place, tag=tag), right)
                met[right] += 1
                tags = [made for made in system if made[0] == kind][0][2][place][-1]
                if right and tag not in tags:
                    foreign.append((kind, place, tag))
            self.assertTrue(same(foreign_takes(system=system), tuple(sorted(foreign))))
            self.assertIs(is_calm(system=system), not foreign)
        self.assertTrue(met[True] > 40 and met[False] > 200, met)

    def test_slots_and_pools(self):
        fork = ('fork', 'lib', 't', 'a', 1)
        looks = ('top', ('a', 'b'), (fork, ('wait', (('a', 2, 2, 2),), -1, 2, ()), ('exit', 0)))
        aside = ('top', ('a', 'b'), (fork, ('poll', (('b', 2, 2, 2),), -1, 2, 2, ()), ('exit', 0)))
        pool = ('top', ('a', 'b'), (fork, ('poll', (), 2, 2, 2, ()), ('exit', 0)))
        for kind, right in ((looks, True), (aside, False), (pool, False)):
            self.assertIs(can_take((kind, LIB), 'top', 1, 't'), right)
            self.assertIs(is_calm((kind, LIB)), not right)
        released = ('top', ('a',), (fork, ('release', 'a', 2), ('poll', (), 3, 3, 3, ('u',)), ('exit', 0)))
        self.assertEqual(foreign_takes((released, LIB)), (('top', 2, 't'),))
        meant = ('top', ('a',), (fork, ('release', 'a', 2), ('poll', (), 3, 3, 3, ('t',)), ('exit', 0)))
        self.assertIs(can_take((meant, LIB), 'top', 2, 't'), True)
        self.assertIs(is_calm((meant, LIB)), True)
        never = (('front', (), (('exit', 0),)), released, LIB)
        self.assertIs(can_take(never, 'top', 2, 't'), False)
        self.assertIs(is_calm(never), True)

    def test_long_runs(self):
        """[9] What is taken in long runs can be taken; foreign takes in them are among the foreign ones."""
        rng = random.Random(474)
        met = 0
        for system in list(SYSTEMS) + lively_systems(475, 40):
            foreign = foreign_takes(system)
            for _ in range(3):
                run = random_run(rng, system, 80)
                for k, taker, place, _, tag, meant in takes_in(system, run):
                    kind = [row[1] for row in tree_after(system, run[:k]) if row[0] == taker][0]
                    self.assertTrue(can_take(system, kind, place, tag))
                    self.assertIs((kind, place, tag) in foreign, not meant)
                    met += 1
        self.assertGreater(met, 50)

    def check_paper(self, system, kind, place, tag):
        told = take_paper(system=system, kind=kind, place=place, tag=tag)
        self.assertEqual((type(told), len(told)), (tuple, 2))
        word, thing = told
        if can_take(system, kind, place, tag):
            self.assertEqual(word, 'run')
            model = model_behind(system, thing[:-1])
            process, step, child = thing[-1]
            self.assertIn(thing[-1], model.steps())
            self.assertEqual((model.all[process].kind, model.all[process].place, step), (kind, place, 'take'))
            self.assertEqual(model.all[child].tag, tag)
        else:
            self.assertEqual(word, 'tables')
            self.assertEqual(lets_tag_tables(system, tag, thing), sum(map(len, thing)))
            self.shows_none(system, kind, place, tag, thing)
        return word

    def shows_none(self, system, name, place, tag, tables):
        self.assertEqual(rows_showing(system, tables, name, place, tag), [])

    def test_papers(self):
        rng = random.Random(477)
        met = {'run': 0, 'tables': 0}
        for system in list(SYSTEMS) + lively_systems(476, 50, places=8):
            takes = self.all_takes(system)
            for kind, place, tag in rng.sample(takes, min(len(takes), 10)):
                met[self.check_paper(system, kind, place, tag)] += 1
        self.assertTrue(met['run'] > 20 and met['tables'] > 100, met)

    def test_papers_far_down(self):
        """The taker is a grandchild, in a slot or a pool, and what it takes comes from its own grandchildren."""
        deep = (('one', ('a',), (('go', (1,)), ('fork', 'two', 'p', 'a', 2), ('exit', 0))),
                ('two', (), (('fork', 'lib', 'q', '', 1), ('wait', (), 2, 2, ()), ('fork', 'three', 'p', '', 3), ('exit', 1))),
                ('three', (), (('fork', 'work', 'r', '', 1), ('wait', (), 2, 2, ()), ('poll', (), 3, 3, 3, ('r',)), ('exit', 0))),
                WORK, LIB)
        for place, tag, word in ((1, 'x', 'run'), (2, 'x', 'run'), (1, 'r', 'run'), (2, 'r', 'run'), (1, 'q', 'tables')):
            self.assertEqual(self.check_paper(deep, 'three', place, tag), word)
        self.assertEqual(self.check_paper(deep, 'two', 1, 'q'), 'run')
        self.assertEqual(self.check_paper(deep, 'two', 1, 'r'), 'tables')
        self.assertEqual(self.check_paper((('front', (), (('exit', 0),)), *deep), 'three', 1, 'x'), 'tables')

    def test_papers_beside_a_living_child(self):
        """A kind that always has a living child in its pool: where it takes, and where it forks who takes."""
        stays = ('stays', (), (('go', (0,)),))
        busy = ('busy', ('a',), (('fork', 'stays', 'u', '', 1), ('fork', 'lib', 't', 'a', 2), ('wait', (('a', 3, 3, 3),), -1, 3, ()),
                                 ('fork', 'lib', 'v', '', 4), ('wait', (), 5, 5, ()), ('fork', 'work', 'w', 'a', 6), ('exit', 0)))
        over = ('over', ('b',), (('fork', 'stays', 'u', '', 1), ('fork', 'busy', 'u', 'b', 2), ('exit', 0)))
        for front, name in (((), 'busy'), ((over,), 'busy')):
            system = (*front, busy, stays, WORK, LIB)
            for place, tag, word in ((2, 't', 'run'), (4, 'v', 'run'), (4, 't', 'tables'), (4, 'u', 'tables')):
                self.assertEqual(self.check_paper(system, name, place, tag), word)

    def test_papers_of_a_tag_or_another(self):
        twin = ('twin', (), (('go', (1, 2)), ('fork', 'lib', 't', '', 3), ('fork', 'lib', 'u', '', 3), ('exit', 0)))
        system = (('up', (), (('fork', 'twin', 'm', '', 1), ('wait', (), 2, 2, ()), ('wait', (), 3, 3, ()), ('exit', 0))), twin, LIB)
        for place in (1, 2):
            for tag in ('t', 'u', 'm'):
                self.assertEqual(self.check_paper(system, 'up', place, tag), 'run')

    def test_papers_of_slots(self):
        for code in (0, 1, 2):
            self.assertEqual(self.check_paper(KEEPER, 'keep', 3, 'x'), 'run')
        self.assertEqual(self.check_paper(SYSTEM, 'main', 4, 'l'), 'run')
        self.assertEqual(self.check_paper(BUSY, 'top', 7, 'x'), 'run')
        self.assertEqual(self.check_paper(BUSY, 'top', 6, 'y'), 'tables')

    def test_refused(self):
        for wrong in odd_values() + [(), SYSTEM[:2]]:
            self.assertEqual(refusal(comes, wrong, None), not_usable('system'))
            self.assertEqual(refusal(foreign_takes, wrong), not_usable('system'))
            self.assertEqual(refusal(is_calm, wrong), not_usable('system'))
            for call in (can_take, take_paper):
                self.assertEqual(refusal(call, wrong, None, None, None), not_usable('system'))
        for wrong in odd_values() + ['nosuch', 0, ('main',)]:
            self.assertEqual(refusal(comes, SYSTEM, wrong), not_usable('kind'))
            for call in (can_take, take_paper):
                self.assertEqual(refusal(call, SYSTEM, wrong, None, None), not_usable('kind'))
        for call in (can_take, take_paper):
            for wrong in odd_values() + [0, 1, 5, 6, 7, 10 ** 59, '2', (2,)]:
                self.assertEqual(refusal(call, SYSTEM, 'main', wrong, None), not_usable('place'))
            for wrong in odd_values() + ['', 'Tag', 'abcdefghi', 0, ('x',)]:
                self.assertEqual(refusal(call, SYSTEM, 'main', 2, wrong), not_usable('tag'))
        self.assertEqual(MAIN[2][2][0], 'wait')


if __name__ == '__main__':
    unittest.main()

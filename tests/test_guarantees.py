"""[9] over drawn systems, exclusions and yards; [10]: systems and yards as large as it says."""

import random
import unittest

from forkyields.accountclasses import Account
from forkyields.accounts import account_of, reach_of
from forkyields.earlyruns import early_run, is_early
from forkyields.exchanges import can_replace, parting
from forkyields.exclusionchecker import lets_exclusions
from forkyields.exclusions import (
    exclusion_paper, exclusions_of, greatest_others, least_exclusions, leaves_calm, newly_stuck)
from forkyields.gaps import dead_places, none_places
from forkyields.heapchecker import lets_heap
from forkyields.heaps import heap_paper, most_lying
from forkyields.kinds import is_system
from forkyields.numbersets import has_number
from forkyields.outside import outside_paper, outside_tags
from forkyields.outsidechecker import lets_outside
from forkyields.resting import alike_at_rest, rest_account, rest_table, stuck_states, tags_at_rest
from forkyields.restruns import rest_run
from forkyields.runs import is_run, takes_in
from forkyields.states import pool_of, state_of
from forkyields.systemchanges import excluded, exchanged, with_kind
from forkyields.systemparts import tags_in, waits_in
from forkyields.tablechecker import lets_tables
from forkyields.tables import table_of, tables_of
from forkyields.takechecker import lets_take
from forkyields.takers import can_take, foreign_takes, is_calm, take_paper
from forkyields.trees import is_at_rest, tree_after
from forkyields.yardlogs import is_log, replayed
from forkyields.yardreadings import read_log
from forkyields.yards import Yard
from forkyields.yardtexts import log_lines
from tests.model import model_behind, random_run
from tests.samples import SYSTEMS, lively_kind, lively_systems, sleepy_kind, sleepy_systems
from tests.test_exclusions import EITHER, TWO, all_of
from tests.test_heaps import ENDLESS
from tests.test_resting import SLEEPY
from tests.test_yards import picture_of
from tests.yardmodel import Day, likely_events, random_day

DRAWN = list(SYSTEMS) + [TWO, EITHER] + list(ENDLESS) + list(SLEEPY)


def with_exclusions(rng, systems):
    """The systems, some of them without some rows."""
    return [excluded(system, *[row for row in exclusions_of(system) if rng.random() < 0.4]) for system in systems]


def drawn(seed, many):
    rng = random.Random(seed)
    return with_exclusions(rng, DRAWN + lively_systems(seed + 1, many) + sleepy_systems(seed + 2, many))


def shape_of(model, number=0):
    """A process and all below it, without numbers."""
    process = model.all[number]
    children = sorted((child.where, shape_of(model, child.number)) for child in model.children(number))
    return (process.kind, process.tag, process.code, process.place, tuple(children))


def forest(model):
    return sorted(shape_of(model, process.number) for process in model.there() if process.parent == -1)


def large_system(rng, maker):
    """Seven kinds of sixteen places, with two slots each, six tags."""
    names = [f'k{letter}' for letter in 'abcdefg']
    kinds = [maker(rng, name, names[i + 1:], ('a', 'b'), 16) for i, name in enumerate(names)]
    made, forks = [], 0
    for name, slots, places in kinds:
        left = []
        for place in places:
            if place[0] == 'fork':
                place = (*place[:2], 'tuvwxy'[forks % 6], *place[3:])
                forks += 1
            left.append(place)
        made.append((name, slots, tuple(left)))
    return tuple(made)


class GuaranteesTest(unittest.TestCase):
    def test_early_runs(self):
        """(F1) The steps of a family stand directly behind its fork; the last tree is the same but for the numbers."""
        rng = random.Random(900)
        for system in drawn(901, 30):
            run = random_run(rng, system, 40)
            early = early_run(system, run)
            self.assertTrue(is_run(system, early) and is_early(system, early))
            self.assertEqual(forest(model_behind(system, run)), forest(model_behind(system, early)))

    def test_tables_and_accounts(self):
        """(F2) The state and the numbers of process 0 in each run are told; ends are in the account."""
        rng = random.Random(902)
        met = 0
        for system in drawn(903, 40):
            rows = {row[0]: row[1:] for row in table_of(system, system[0][0])}
            account = account_of(system, system[0][0])
            run = random_run(rng, system, 50)
            for k in range(len(run) + 1):
                model = model_behind(system, run[:k])
                if model.all[0].code == -1:
                    dead, living = pool_of(system, run[:k], 0)
                    self.assertTrue(has_number(rows[state_of(system, run[:k], 0)][living > 0], dead))
                    met += 1
                else:
                    lying = sum(process.code != -1 and process.parent == -1 for process in model.there())
                    self.assertTrue(has_number(account[model.all[0].code][bool(model.living())], lying))
            tables = tables_of(system)
            self.assertEqual(lets_tables(system, tables), sum(map(len, tables)))
        self.assertGreater(met, 500)

    def test_exchange(self):
        """(F3) A kind that can stand for another one brings the kinds above to no further state; if not, a probe shows it."""
        met = {True: 0, False: 0}
        for system in drawn(904, 20):
            for i, old in enumerate(system[1:]):
                for new in system[1:][max(i - 1, 0):i + 2]:
                    right = can_replace(system, old[0], new[0])
                    self.assertIs(right, Account.of(system, new[0]) <= Account.of(system, old[0]))
                    met[right] += 1
                    try:
                        other = exchanged(system, old[0], new[0])
                    except ValueError:
                        continue
                    if right:
                        before = {row[0] for row in table_of(system, system[0][0])}
                        self.assertTrue({row[0] for row in table_of(other, system[0][0])} <= before)
                    else:
                        probe, place = parting(system, old[0], new[0])
                        self.assertNotIn(place, [row[0][0] for row in table_of(with_kind(system, probe), probe[0])])
        self.assertTrue(min(met.values()) > 30, met)

    def test_alike_at_rest(self):
        """(F3) A kind that is alike at rest leaves the stuck states of those above as they are."""
        met = 0
        for system in drawn(905, 60):
            # A twin that has one more place, to which nothing leads, makes sure that some are alike.
            name, slots, places = system[-1]
            system = (*system, ('ztwin', slots, (*places, ('exit', 0))))
            for old in system[1:]:
                for new in system[1:]:
                    if old != new and alike_at_rest(system, old[0], new[0]):
                        try:
                            other = exchanged(system, old[0], new[0])
                        except ValueError:
                            continue
                        met += 1
                        for kind in system[:[known[0] for known in system].index(old[0])]:
                            self.assertEqual(stuck_states(other, kind[0]), stuck_states(system, kind[0]))
        self.assertGreater(met, 15)

    def test_takes_and_what_lies_outside(self):
        """(F4), (F5): in drawn runs each take, each foreign one, and each process outside is told."""
        rng = random.Random(906)
        met = 0
        for system in drawn(907, 30):
            foreign, tags = foreign_takes(system), outside_tags(system)
            run = random_run(rng, system, 60)
            for k, taker, place, _, tag, meant in takes_in(system, run):
                kind = [row[1] for row in tree_after(system, run[:k]) if row[0] == taker][0]
                self.assertTrue(can_take(system, kind, place, tag))
                self.assertIs((kind, place, tag) in foreign, not meant)
                met += 1
            for row in tree_after(system, run):
                if row[3] == -1 and row[4] != -1 and row[2]:
                    self.assertIn(row[2], tags)
        self.assertGreater(met, 30)

    def test_rest_gaps_and_heaps(self):
        """(F6), (F7): what is told of rest, gaps and heaps holds in drawn runs."""
        rng = random.Random(908)
        met = 0
        for system in drawn(909, 60):
            name = system[0][0]
            stuck, tags, most = stuck_states(system, name), tags_at_rest(system), most_lying(system, name)
            rows, dead, empty = {row[0]: row for row in rest_table(system, name)}, dead_places(system), none_places(system)
            run = random_run(rng, system, 40)
            for k in range(len(run) + 1):
                model = model_behind(system, run[:k])
                self.assertFalse({(process.kind, process.place) for process in model.living()} & set(dead))
                if model.all[0].code != -1:
                    continue
                lying = [child for child in model.children(0) if child.code != -1]
                self.assertTrue(most is None or len(lying) <= most)
                state, (number, living) = state_of(system, run[:k], 0), pool_of(system, run[:k], 0)
                if not living:
                    self.assertTrue(has_number(rows[state][1], number))
                if (0, 'none', -1) in model.steps() and system[0][2][state[0]][2] == -1:
                    self.assertIn((name, state[0]), empty)
                if is_at_rest(system, run[:k]):
                    met += 1
                    self.assertIn(state, stuck)
                    self.assertTrue({(name, child.tag) for child in lying} <= set(tags))
                    self.assertTrue(not living or has_number(rows[state][2], number))
        self.assertGreater(met, 10)

    def test_exclusions(self):
        """(F8) No run is possible in the excluded system that was not; the least and greatest sets part all."""
        rng = random.Random(910)
        met = 0
        for system in DRAWN + lively_systems(911, 50):
            rows = exclusions_of(system)
            if len(rows) > 5:
                continue
            least, others = least_exclusions(system), greatest_others(system)
            for _ in range(3):
                part = tuple(row for row in rows if rng.random() < 0.5)
                self.assertTrue(is_run(system, random_run(rng, excluded(system, *part), 40)))
                calm = leaves_calm(system, part)
                self.assertIs(any(set(one) <= set(part) for one in least), calm)
                self.assertIs(any(set(part) <= set(one) for one in others), not calm)
                met += bool(part)
        self.assertGreater(met, 20)

    def test_yards(self):
        """(F9) A live yard agrees with a fresh start, behind what was undone and tried; replayed from its log it is equal."""
        rng = random.Random(912)
        for system in DRAWN + lively_systems(913, 20):
            yard, day = Yard(system), Day(system)
            for _ in range(50):
                event = rng.choice(likely_events(rng, day))
                if rng.random() < 0.15 and day.events:
                    yard.undo()
                    day = Day(system, 'off', day.events[:-1])
                elif rng.random() < 0.2:
                    with yard.trial():
                        if yard.barred(event) is None:
                            yard += event
                elif day.reason(event) is None:
                    day.do(event)
                    yard += event
            fresh = Yard(system)
            fresh.do_all(*day.events)
            again = replayed(yard.log())
            self.assertTrue(yard == fresh and again == yard)
            self.assertEqual([picture_of(fresh), picture_of(again)], [picture_of(yard)] * 2)
            self.assertEqual(read_log(log_lines(yard.log())), yard.log())

    def test_papers(self):
        """(F9) Each paper that is made is accepted, and tells what the functions tell."""
        rng = random.Random(914)
        for system in drawn(915, 20):
            for tag in tags_in(system)[:3]:
                self.assertIs(lets_outside(system, tag, outside_paper(system, tag)), tag in outside_tags(system))
                for kind in system:
                    for place in waits_in(system, kind[0])[:2]:
                        told = lets_take(system, kind[0], place, tag, take_paper(system, kind[0], place, tag))
                        self.assertIs(told, can_take(system, kind[0], place, tag))
            kind = rng.choice(system)[0]
            self.assertEqual(lets_heap(system, kind, heap_paper(system, kind)), most_lying(system, kind))


class LimitsTest(unittest.TestCase):
    def test_large_systems(self):
        for maker, seed in ((lively_kind, 920), (sleepy_kind, 921), (lively_kind, 922)):
            rng = random.Random(seed)
            system = large_system(rng, maker)
            self.assertTrue(is_system(system) and len(system) == 7 and all(len(kind[2]) == 16 for kind in system))
            self.assertEqual(len({place[2] for kind in system for place in kind[2] if place[0] == 'fork'}), 6)
            first = system[0][0]
            self.assertIs(is_calm(system), not foreign_takes(system))
            for tag in 'tuvwxy':
                self.assertIs(lets_outside(system, tag, outside_paper(system, tag)), tag in outside_tags(system))
            for kind in system:
                self.assertEqual(lets_heap(system, kind[0], heap_paper(system, kind[0])), most_lying(system, kind[0]))
                for state in stuck_states(system, kind[0])[:3]:
                    self.assertTrue(rest_run(system, kind[0], state))
            self.assertEqual([pair[0] for pair in rest_account(system, first)], [pair[0] for pair in account_of(system, first)])
            self.assertIn(type(reach_of(system, first, 2)), (int, type(None)))
            rows = all_of(system)
            self.assertGreater(len(rows), 5)
            self.assertIs(leaves_calm(system, tuple(rows)), is_calm(excluded(system, *rows)))
            self.assertIs(type(newly_stuck(system, tuple(rows[:5]))), tuple)

    def test_five_exclusions(self):
        """In a system of this size without all but five of its rows that can be excluded."""
        rng = random.Random(923)
        met = 0
        for maker in (lively_kind, lively_kind, sleepy_kind):
            system = large_system(rng, maker)
            system = excluded(system, *sorted(all_of(system), key=lambda row: (row[0] != 'ka', row))[5:])
            self.assertEqual(len(exclusions_of(system)), 5)
            least, others = exclusion_paper(system)
            self.assertIs(lets_exclusions(system, (least, others)), least != ())
            self.assertTrue(least or others)
            met += len(least) + len(others)
        self.assertGreater(met, 2)

    def test_forty_events(self):
        rng = random.Random(924)
        for maker in (lively_kind, sleepy_kind):
            system = large_system(rng, maker)
            day = random_day(rng, system, 40)
            while len(day.events) < 40:
                day.do(('guard', 'off' if day.guard == 'on' else 'on'))
            yard = replayed(day.log())
            self.assertEqual(len(yard.log()), 41)
            self.assertEqual(yard.barred(('mark', 'zz')), 'full')
            self.assertTrue(is_log(yard.log()))
            self.assertEqual(yard.tree_now, day.model.rows())
            self.assertEqual(replayed(read_log(log_lines(yard.log()))), yard)


if __name__ == '__main__':
    unittest.main()

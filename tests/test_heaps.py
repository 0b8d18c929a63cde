"""[56], [57]: how many endings can lie at once, papers of it and their check."""

import random
import unittest

from forkyields.accounts import account_of
from forkyields.counts import counted_run
from forkyields.errors import InvalidPaper
from forkyields.heapchecker import lets_heap
from forkyields.heaps import heap_paper, most_lying
from forkyields.systemparts import cut_at
from forkyields.tables import table_of, tables_of
from tests.brute import CODE, POOL, SLOTS, TAG, all_trees
from tests.closed import first_fault, members
from tests.model import Model, model_behind, random_run
from tests.samples import (
    BUSY, KEEPER, LIB, MAIN, SYSTEM, SYSTEMS, WORK, lively_systems, not_usable, odd_values, random_systems, refusal,
    sleepy_systems, spoiled)
from tests.test_counts import count_fault, windows
from tests.test_tablechecker import all_states, changed, paper
from tests.twoforms import plays

NONE = ((), (), 0)
ANY = ((), (0,), 1)
LOOP = (('loop', (), (('go', (1, 2)), ('fork', 'lib', 'm', '', 0), ('exit', 0))), LIB)
COUNTED = (((0, ()), 0, False), ((1, ()), 0, False), ((0, ()), 1, False))
# Endless by the account of a fork into the pool, into a slot, and by a kill alone.
OVER = (('over', (), (('fork', 'loop', 't', '', 1), ('exit', 0))), *LOOP)
SLOT = (('slot', ('a',), (('fork', 'loop', 't', 'a', 1), ('exit', 0))), *LOOP)
STAYS = ('stays', (), (('fork', 'lib', 'm', '', 0),))
KILL = (('kill', ('a',), (('fork', 'stays', 't', 'a', 1), ('kill', 'a', 2), ('exit', 0))), STAYS, LIB)
# Waits for all its children each time round: two can lie at once, never more.
ROUND = (('round', (), (('fork', 'lib', 't', '', 1), ('fork', 'lib', 't', '', 2), ('wait', (), 2, 0, ()))), LIB)
# Takes one of each three, with a slot, a release and a poll on the way.
GROWS = (('grows', ('a',), (('fork', 'lib', 't', 'a', 1), ('release', 'a', 2), ('fork', 'work', 'u', '', 3), ('poll', (), 0, 0, 3, ()))),
         WORK, LIB)
ENDLESS = (LOOP, OVER, SLOT, KILL, GROWS)


def grows_endless(system, kind, state):
    """Whether the number can grow by a fork or kill at a state without a greatest number, by the words of [57]."""
    known = [made for made in system if made[0] == kind][0]
    place, contents = state
    word, *parts = known[2][place]
    if word == 'fork':
        pairs = account_of(system, parts[0])[:2]
    elif word == 'kill' and dict(zip(known[1], contents))[parts[0]][1:] == (-1,):
        fork = dict(zip(known[1], contents))[parts[0]][0]
        pairs = account_of(system, known[2][fork][1])[2:]
    else:
        pairs = ()
    return any(told[2] for pair in pairs for told in pair)


def shape_fits(thing):
    if type(thing) is not tuple or not thing or type(thing[0]) is not str:
        return False
    at = {'most': (4, 1), 'again': (3, 2), 'account': (2, None)}.get(thing[0])
    if at is None or len(thing) != at[0]:
        return False
    return at[1] is None or (type(thing[at[1]]) is int and thing[at[1]] >= 0)


def most_fault(system, kind, thing):
    _, number, run, tables = thing
    own = cut_at(system, kind)
    model = plays(own, run)
    if model is None or first_fault(system, tables) is not None:
        return ('paper', -1)
    if model.all[0].code != -1 or sum(child.code != -1 for child in model.children(0)) != number:
        return ('run', -1)
    for k, ((_, contents), settled, unsettled) in enumerate(tables[[made[0] for made in system].index(kind)]):
        dead = sum(content != () and content[1] != -1 for content in contents)
        if any(n + dead > number for n in members(settled) | members(unsettled)):
            return ('number', k)
    return None


def again_holds(kind, counted, k):
    if k >= len(counted) or counted[k][0] != counted[-1][0] or counted[k][2] is not counted[-1][2]:
        return False
    if not counted[k][1] < counted[-1][1]:
        return False
    for (place, contents), number, living in counted[k:-1]:
        instruction = kind[2][place]
        if instruction[0] in ('wait', 'poll') and instruction[2] != -1 and not any(contents) and number == 0 and not living:
            return False
    return True


def fault_of(system, kind, thing, accounts):
    """The first fault of any value as a heap paper; None if it is one."""
    if not shape_fits(thing):
        return ('shape', -1)
    if thing[0] == 'most':
        return most_fault(system, kind, thing)
    if count_fault(system, kind, thing[1], accounts) is not None:
        return ('paper', -1)
    known = [made for made in system if made[0] == kind][0]
    if thing[0] == 'again':
        return None if again_holds(known, thing[1], thing[2]) else ('again', -1)
    return None if grows_endless(system, kind, thing[1][-1][0]) else ('account', -1)


class HeapsTest(unittest.TestCase):
    def agree(self, system, kind, thing, accounts=None):
        accounts = windows(system, kind) if accounts is None else accounts
        fault = fault_of(system, kind, thing, accounts)
        self.assertEqual(refusal(lets_heap, system, kind, thing), fault and paper(*fault), (system, kind, thing))
        if fault is None:
            told = lets_heap(system=system, kind=kind, thing=thing)
            self.assertEqual(repr(told), repr(most_lying(system, kind)))
            self.assertEqual(told, thing[1] if thing[0] == 'most' else None)
        return fault and fault[0]

    def test_example(self):
        self.assertEqual([most_lying(SYSTEM, 'main'), most_lying(LOOP, 'loop'), lets_heap(LOOP, 'loop', ('again', COUNTED, 0))],
                         [3, None, None])

    def test_by_hand(self):
        for system, kind, most in ((ROUND, 'round', 2), (LOOP, 'lib', 0), (OVER, 'over', None), (SLOT, 'slot', None),
                                   (KILL, 'kill', None), (GROWS, 'grows', None), (SYSTEM, 'work', 1), ((LIB,), 'lib', 0),
                                   (KEEPER, 'low', 0)):
            self.assertEqual(repr(most_lying(system=system, kind=kind)), repr(most))
        for system, form in ((LOOP, 'again'), (OVER, 'account'), (SLOT, 'account'), (KILL, 'account'), (GROWS, 'again'),
                             (ROUND, 'most')):
            thing = heap_paper(system=system, kind=system[0][0])
            self.assertEqual(thing[0], form)
            self.assertIsNone(self.agree(system, system[0][0], thing))

    def test_children_in_slots_and_pool(self):
        """What lies in slots counts beside what lies in the pool."""
        kind = ('kind', ('a', 'b'), (('fork', 'lib', 't', 'a', 1), ('fork', 'work', 't', 'b', 2), ('fork', 'lib', 't', 'a', 3), ('exit', 0)))
        self.assertEqual(most_lying((kind, WORK, LIB), 'kind'), 4)
        killed = ('kind', ('a',), (('fork', 'stay', 't', 'a', 1), ('kill', 'a', 2), ('exit', 0)))
        stay = ('stay', (), (('fork', 'lib', 'u', '', 1), ('fork', 'lib', 'u', '', 2), ('go', (2,))))
        self.assertEqual(most_lying((killed, stay, LIB), 'kind'), 3)
        for system in ((kind, WORK, LIB), (killed, stay, LIB)):
            self.assertIsNone(self.agree(system, 'kind', heap_paper(system, 'kind')))

    def test_against_all_trees(self):
        for system in list(SYSTEMS) + list(ENDLESS) + [ROUND] + lively_systems(560, 40, places=7):
            for kind in system[:2]:
                told = most_lying(system, kind[0])
                for tree in all_trees(cut_at(system, kind[0]), 9, 1500):
                    first = [proc for proc in tree if proc[TAG] == ''][0]
                    children = [child for child in first[SLOTS] if child] + list(first[POOL])
                    if first[CODE] == -1 and told is not None:
                        self.assertLessEqual(sum(child[CODE] != -1 for child in children), told)

    def test_against_tables(self):
        met = {True: 0, False: 0}
        for system in list(SYSTEMS) + list(ENDLESS) + lively_systems(561, 80) + random_systems(562, 30) + sleepy_systems(563, 40):
            for kind in system:
                most = 0
                for (_, contents), *sets in table_of(system, kind[0]):
                    dead = sum(content != () and content[1] != -1 for content in contents)
                    if any(told[2] for told in sets):
                        most = None
                        break
                    most = max([most] + [dead + n for told in sets for n in told[0]])
                self.assertEqual(repr(most_lying(system, kind[0])), repr(most))
                met[most is None] += 1
        self.assertTrue(min(met.values()) > 30, met)

    def test_own_papers(self):
        met = {'most': 0, 'again': 0, 'account': 0}
        for system in list(SYSTEMS) + list(ENDLESS) + lively_systems(564, 90, places=8) + random_systems(565, 60):
            for kind in system:
                thing = heap_paper(system, kind[0])
                self.assertIs(type(thing), tuple)
                most = most_lying(system, kind[0])
                self.assertEqual(thing[0] == 'most', most is not None)
                self.assertEqual(repr(lets_heap(system, kind[0], thing)), repr(most))
                met[thing[0]] += 1
                if thing[0] != 'most' or (sum(map(len, thing[3])) < 30 and most < 8):
                    self.assertIsNone(self.agree(system, kind[0], thing))
                if thing[0] == 'most':
                    model = model_behind(cut_at(system, kind[0]), thing[2])
                    self.assertEqual(sum(child.code != -1 for child in model.children(0)), most)
        self.assertTrue(met['most'] > 100 and met['again'] > 30 and met['account'] > 4, met)

    def test_changed_most(self):
        rng = random.Random(566)
        words = {}
        cases = [(SYSTEM, 'main'), (SYSTEM, 'work'), (ROUND, 'round'), (LOOP, 'lib')]
        cases += [(system, system[0][0]) for system in lively_systems(567, 60, places=6) if most_lying(system, system[0][0]) is not None]
        for system, kind in cases:
            word, number, run, tables = heap_paper(system, kind)
            if sum(map(len, tables)) > 30 or number > 8:
                continue
            accounts = windows(system, kind)
            i = rng.randrange(len(tables))
            k = rng.randrange(len(tables[i]))
            row = list(tables[i][k])
            row[rng.randint(1, 2)] = rng.choice((NONE, ANY, ((1,), (), 0), ((0, 1), (), 0)))
            for thing in ((word, number + 1, run, tables), (word, max(number - 1, 0), run, tables), (word, number, run[:-1], tables),
                          (word, number, run + run[:1], tables), (word, number, run[1:], tables), (word, number, run, tables[1:]),
                          (word, number, run, changed(tables, i, k, tuple(row))), (word, 0, (), tables), (word, number, (), tables),
                          (word, number, list(run), tables), ('again', run, number), ('account', run), (word, run, number, tables)):
                found = self.agree(system, kind, thing, accounts)
                words[found] = words.get(found, 0) + 1
        self.assertTrue(min(words.get(word, 0) for word in (None, 'shape', 'paper', 'run', 'number')) > 4, words)

    def test_larger_tables(self):
        """Closed tables that are larger than the least ones may show more than there is, or not."""
        tables = tuple(tuple((state, ANY, ANY) for state in all_states(kind)) for kind in SYSTEM)
        run = heap_paper(SYSTEM, 'main')[2]
        self.assertEqual(refusal(lets_heap, SYSTEM, 'main', ('most', 3, run, tables)), paper('number', 0))
        least = tables_of((WORK, LIB))
        more = (least[0] + (((1, ()), NONE, NONE),), least[1])
        self.assertEqual(refusal(lets_heap, (WORK, LIB), 'lib', ('most', 0, (), more)), paper('paper', -1))
        # A row without numbers, with ended contents, tells nothing.
        spare = ('spare', ('a',), (('exit', 0), ('fork', 'lib', 't', 'a', 0)))
        rows = (((0, ((),)), ((0,), (), 0), NONE), ((0, ((1, 0),)), NONE, NONE))
        self.assertEqual(lets_heap((spare, LIB), 'spare', ('most', 0, (), (rows, tables_of((LIB,))[0]))), 0)
        rows = rows[:1] + (((0, ((1, 0),)), NONE, ((0,), (), 0)),)
        self.assertEqual(refusal(lets_heap, (spare, LIB), 'spare', ('most', 0, (), (rows, tables_of((LIB,))[0]))), paper('number', 1))
        rows = rows[:1] + (((0, ((1, -1),)), NONE, ((0,), (), 0)), ((0, ((1, 0),)), NONE, NONE))
        self.assertEqual(lets_heap((spare, LIB), 'spare', ('most', 0, (), (rows, tables_of((LIB,))[0]))), 0)

    def test_an_ended_process(self):
        """Process 0 lives behind the run; the run is one of the kind, the tables are those of the whole system."""
        tables = tables_of(SYSTEM)
        run = ((0, 'fork', -1), (1, 'exit', -1))
        self.assertEqual(lets_heap(SYSTEM, 'work', ('most', 1, run, tables)), 1)
        self.assertEqual(refusal(lets_heap, SYSTEM, 'work', ('most', 1, run + ((0, 'exit', -1),), tables)), paper('run', -1))
        self.assertEqual(refusal(lets_heap, SYSTEM, 'work', ('most', 0, run + ((0, 'exit', -1),), tables)), paper('run', -1))
        self.assertEqual(refusal(lets_heap, SYSTEM, 'work', ('most', 1, run, tables[1:])), paper('paper', -1))
        self.assertEqual(refusal(lets_heap, SYSTEM, 'main', ('most', 1, run, tables)), paper('number', 3))
        self.assertEqual(self.agree(SYSTEM, 'work', ('most', 0, (), tables)), 'number')

    def test_changed_again(self):
        words = {}
        for system, kind in [(LOOP, 'loop'), (GROWS, 'grows')] + [
                (system, kind[0]) for system in lively_systems(568, 60, places=7) for kind in system if most_lying(system, kind[0]) is None]:
            thing = heap_paper(system, kind)
            if thing[0] != 'again':
                continue
            word, counted, k = thing
            accounts = windows(system, kind)
            for other in ((word, counted, k + 1), (word, counted, len(counted) - 1), (word, counted, len(counted)), (word, counted, 0),
                          (word, counted[:-1], k), (word, counted[:k + 1], k), (word, counted, -1), (word, counted, True),
                          (word, counted, 10 ** 59), (word, counted[1:], k), ('account', counted), (word, list(counted), k),
                          (word, counted + counted[-1:], k), (word, counted + counted[k + 1:], k), ('again', counted)):
                found = self.agree(system, kind, other, accounts)
                words[found] = words.get(found, 0) + 1
            last = counted[-1]
            more = counted + tuple((state, number + last[1] - counted[k][1], living) for state, number, living in counted[k + 1:])
            for other in ((word, more, k), (word, more, len(counted) - 1)):
                self.assertIsNone(self.agree(system, kind, other, accounts))
                words[None] = words.get(None, 0) + 1
            for made in ((last[0], last[1] + 1, last[2]), (last[0], last[1], not last[2]), (counted[0][0], last[1], last[2])):
                found = self.agree(system, kind, (word, counted[:-1] + (made,), k), accounts)
                words[found] = words.get(found, 0) + 1
        self.assertTrue(min(words.get(word, 0) for word in (None, 'shape', 'paper', 'again')) > 4, words)
        self.assertGreater(words.get('account', 0), 2)

    def test_a_wait_behind_which_nothing_is_left(self):
        """What is done again needs no moment without children, or it could not be done with more of them."""
        state = {p: (p, ()) for p in range(3)}
        counted = ((state[0], 0, False), (state[1], 1, False), (state[2], 2, False), (state[2], 1, False), (state[2], 0, False),
                   (state[0], 0, False), (state[1], 1, False))
        self.assertEqual(self.agree(ROUND, 'round', ('again', counted, 0)), 'again')
        self.assertEqual(self.agree(ROUND, 'round', ('again', counted[:2], 0)), 'again')
        # Here it looks as if more came each time, but one way leads over none.
        kind = ('kind', (), (('go', (1, 3)), ('wait', (), 1, 2, ()), ('fork', 'lib', 't', '', 0), ('exit', 0)))
        counted = (((0, ()), 0, False), ((1, ()), 0, False), ((2, ()), 0, False), ((0, ()), 1, False))
        self.assertEqual(most_lying((kind, LIB), 'kind'), 1)
        for k in (0, 1, 2, 3):
            self.assertEqual(self.agree((kind, LIB), 'kind', ('again', counted, k)), 'again')
        # The last element may be at such a wait; one beside a child in a slot, a living one or with a number is none.
        for places, counted, k in (
                ((('wait', (), 0, 1, ()), ('fork', 'lib', 't', '', 1)),
                 (((0, ()), 0, False), ((1, ()), 0, False), ((1, ()), 1, False)), 1),
                ((('fork', 'loop', 't', '', 1), ('poll', (), 1, 1, 2, ()), ('fork', 'lib', 't', '', 1)),
                 (((0, ()), 0, False), ((1, ()), 0, True), ((2, ()), 0, True), ((1, ()), 1, True)), 1)):
            awake = ('loop', (), (('go', (0,)),))
            self.assertIsNone(self.agree((('kind', (), places), awake, LIB), 'kind', ('again', counted, k)))
        held = ('kind', ('a',), (('fork', 'lib', 't', 'a', 1), ('poll', (), 1, 1, 2, ()), ('fork', 'lib', 't', '', 1)))
        counted = (((0, ((),)), 0, False), ((1, ((0, 0),)), 0, False), ((2, ((0, 0),)), 0, False), ((1, ((0, 0),)), 1, False))
        self.assertIsNone(self.agree((held, LIB), 'kind', ('again', counted, 1)))
        no_pool = ('kind', ('a',), (('poll', (('a', 0, 0, 0),), -1, 1, 0, ()), ('fork', 'lib', 't', '', 0)))
        counted = (((0, ((),)), 0, False), ((1, ((),)), 0, False), ((0, ((),)), 1, False))
        self.assertIsNone(self.agree((no_pool, LIB), 'kind', ('again', counted, 0)))

    def test_a_wait_with_a_number(self):
        """At a number above 0 the wait is no such one; a poll that is done again begins above 0."""
        kind = ('kind', (), (('fork', 'lib', 't', '', 1), ('wait', (), 2, 5, ()), ('fork', 'lib', 't', '', 3), ('fork', 'lib', 't', '', 1),
                             ('exit', 0), ('exit', 0)))
        counted = (((0, ()), 0, False), ((1, ()), 1, False), ((2, ()), 0, False), ((3, ()), 1, False), ((1, ()), 2, False))
        self.assertIsNone(self.agree((kind, LIB), 'kind', ('again', counted, 1)))
        polls = ('polls', (), (('poll', (), 3, 1, 2, ()), ('fork', 'lib', 't', '', 0), ('fork', 'lib', 't', '', 0), ('exit', 0)))
        thing = heap_paper((polls, LIB), 'polls')
        self.assertIsNone(self.agree((polls, LIB), 'polls', thing))
        counted = (((0, ()), 0, False), ((1, ()), 0, False), ((0, ()), 1, False), ((2, ()), 1, False), ((0, ()), 2, False))
        self.assertEqual([self.agree((polls, LIB), 'polls', ('again', counted, k)) for k in (0, 2)], ['again', None])

    def test_changed_account(self):
        for system in (OVER, SLOT, KILL):
            kind = system[0][0]
            word, counted = heap_paper(system, kind)
            self.assertIsNone(self.agree(system, kind, (word, counted)))
            for thing in ((word, counted, 0), (word,), (word, counted[:-1]), (word, counted * 2), ('again', counted, 0), (word, None)):
                self.agree(system, kind, thing)
            far = counted_run(system, kind, *[row[0] for row in table_of(system, kind)][-1:], 0, living=True)
            self.assertEqual(self.agree(system, kind, (word, far)), 'account')
        # A kill of a child that has ended, or of nobody, adds nothing; a fork of a kind with a greatest number does not do.
        for state in ((1, ((),)), (1, ((0, 0),)), (1, ((0, 2),))):
            kind = ('kill', ('a',), (('go', (0, 1, 2)), ('kill', 'a', 3), ('fork', 'stays', 't', 'a', 0), ('exit', 0)))
            system = (kind, STAYS, LIB)
            contents = tuple((2, content[1]) if content else () for content in state[1])
            right = [row for row in table_of(system, 'kill') if row[0] == (1, contents)]
            if right:
                counted = counted_run(system, 'kill', (1, contents), 0)
                self.assertEqual(self.agree(system, 'kill', ('account', counted)), 'account')
        self.assertEqual(self.agree(SYSTEM, 'main', ('account', counted_run(SYSTEM, 'main', (0, ((),)), 0))), 'account')

    def test_several_faults(self):
        tables = tables_of(SYSTEM)
        for thing, word, at in ((('most', 3, (), tables, None), 'shape', -1), (('most', -1, (), tables), 'shape', -1),
                                (('most', True, (), tables), 'shape', -1), (('again', None, None), 'shape', -1), ((), 'shape', -1),
                                (('account', None, 0), 'shape', -1), (('Most', 3, (), tables), 'shape', -1), (('most',), 'shape', -1),
                                (['account', COUNTED], 'shape', -1), (('most', 99, None, tables), 'paper', -1),
                                (('most', 99, (), None), 'paper', -1), (('most', 99, (), tables), 'run', -1),
                                (('again', None, 99), 'paper', -1), (('account', ()), 'paper', -1), (('most', 0, (), tables), 'number', 2)):
            self.assertEqual(refusal(lets_heap, SYSTEM, 'main', thing), paper(word, at), thing)
        for thing in (('most', 0, None, tables), ('most', 0, (), None), ('again', (), 0), ('account', None)):
            with self.assertRaises(InvalidPaper) as caught:
                lets_heap(SYSTEM, 'main', thing)
            self.assertIsInstance(caught.exception.__cause__, InvalidPaper)

    def test_values_of_every_kind(self):
        words = set()
        for system, kind, thing in (((WORK, LIB), 'work', heap_paper((WORK, LIB), 'work')), (LOOP, 'loop', ('again', COUNTED, 0)),
                                    (OVER, 'over', heap_paper(OVER, 'over'))):
            accounts = windows(system, kind)
            for wrong in spoiled(thing):
                words.add(self.agree(system, kind, wrong, accounts))
            for wrong in odd_values():
                for other in (wrong, ('most', 0, wrong, tables_of(system)), ('most', 0, (), wrong), ('most', wrong, (), tables_of(system)),
                              ('again', wrong, 0), ('again', COUNTED, wrong), ('account', wrong), (wrong, COUNTED, 0), (wrong, COUNTED)):
                    words.add(self.agree(system, kind, other, accounts))
        self.assertEqual(words, {None, 'shape', 'paper', 'run', 'again'})

    def test_long_runs(self):
        """[9] (F7) No more endings lie with a process in drawn runs than is told."""
        rng = random.Random(569)
        for system in list(SYSTEMS) + [ROUND, GROWS] + lively_systems(570, 60):
            told = {kind[0]: most_lying(system, kind[0]) for kind in system}
            model = Model(system)
            for step in random_run(rng, system, 80):
                model.do(step)
                for process in model.living():
                    many = sum(child.code != -1 for child in model.children(process.number))
                    self.assertTrue(told[process.kind] is None or many <= told[process.kind])

    def test_refused(self):
        for wrong in odd_values() + [(), SYSTEM[:2]]:
            self.assertEqual(refusal(most_lying, wrong, None), not_usable('system'))
            self.assertEqual(refusal(heap_paper, wrong, None), not_usable('system'))
            self.assertEqual(refusal(lets_heap, wrong, None, None), not_usable('system'))
        for wrong in odd_values() + ['nosuch', 0, ('main',)]:
            self.assertEqual(refusal(most_lying, SYSTEM, wrong), not_usable('kind'))
            self.assertEqual(refusal(heap_paper, SYSTEM, wrong), not_usable('kind'))
            self.assertEqual(refusal(lets_heap, SYSTEM, wrong, None), not_usable('kind'))
        self.assertEqual((MAIN[0], BUSY[0][0]), ('main', 'top'))


if __name__ == '__main__':
    unittest.main()

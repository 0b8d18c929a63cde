"""[48]: the check of take papers."""

import random
import unittest

from forkyields.errors import InvalidPaper
from forkyields.systemparts import tags_in, waits_in
from forkyields.takechecker import lets_take
from forkyields.takers import can_take, take_paper
from tests.model import random_run
from tests.samples import (
    BUSY, KEEPER, LIB, RUN, SYSTEM, SYSTEMS, WORK, lively_systems, not_usable, odd_values, refusal, spoiled)
from tests.test_tablechecker import all_states, changed, paper
from tests.twoforms import form_fault, least_tables, plays, rows_showing

NONE = ((), (), 0)
ANY = ((), (0,), 1)
FROM_1 = ((), (1,), 1)
FORK = ('fork', 'lib', 't', 'a', 1)
# The first kind takes t out of its slot at place 1, and u out of its pool at place 2; the second one never comes.
TOP = ('top', ('a',), (FORK, ('wait', (('a', 2, 2, 2),), -1, 2, ()), ('fork', 'lib', 'u', '', 3),
                       ('poll', (), 4, 4, 3, ('u',)), ('exit', 0)))
IDLE = ('idle', ('a',), (FORK, ('wait', (('a', 2, 2, 2),), 2, 2, ()), ('exit', 0)))
HERE = (TOP, IDLE, LIB)
TAKE = ((0, 'fork', -1), (1, 'exit', -1), (0, 'take', 1))


def fault_of(system, kind, place, tag, thing):
    """The first fault of any value as a take paper; None if it is one."""
    fault = form_fault(system, tag, thing)
    if fault is not None:
        return fault
    if thing[0] == 'tables':
        rows = rows_showing(system, thing[1], kind, place, tag)
        return ('number', rows[0]) if rows else None
    if not thing[1] or thing[1][-1][1] != 'take':
        return ('take', -1)
    process, _, child = thing[1][-1]
    before = plays(system, thing[1][:-1])
    taker = before.all[process]
    right = (taker.kind, taker.place, before.all[child].tag) == (kind, place, tag)
    return None if right else ('take', -1)


class TakeCheckerTest(unittest.TestCase):
    def agree(self, system, kind, place, tag, thing):
        fault = fault_of(system, kind, place, tag, thing)
        told = (system, kind, place, tag, thing)
        self.assertEqual(refusal(lets_take, *told), fault and paper(*fault), told)
        if fault is None:
            self.assertIs(lets_take(system=system, kind=kind, place=place, tag=tag, thing=thing), thing[0] == 'run')
        return fault and fault[0]

    def test_example(self):
        self.assertIs(lets_take(SYSTEM, 'main', 2, 'x', ('run', RUN)), True)
        self.assertIs(lets_take(SYSTEM, 'main', 4, 'x', take_paper(SYSTEM, 'main', 4, 'x')), False)

    def test_own_papers(self):
        rng = random.Random(480)
        met = {True: 0, False: 0}
        for system in list(SYSTEMS) + [HERE] + lively_systems(481, 60, places=8):
            takes = [(kind[0], place, tag) for kind in system for place in waits_in(system, kind[0])
                     for tag in (*tags_in(system), 'nosuch')]
            for take in rng.sample(takes, min(len(takes), 8)):
                thing = take_paper(system, *take)
                right = can_take(system, *take)
                self.assertIs(lets_take(system, *take, thing), right)
                met[right] += 1
                if thing[0] == 'run' or sum(map(len, thing[1])) < 30:
                    self.assertIsNone(self.agree(system, *take, thing))
        self.assertTrue(met[True] > 20 and met[False] > 100, met)

    def test_slots_and_pools(self):
        for place, tag, right in ((1, 't', True), (3, 'u', True), (3, 't', False), (1, 'u', False)):
            thing = take_paper(HERE, 'top', place, tag)
            self.assertEqual(thing[0], 'run' if right else 'tables')
            self.assertIs(lets_take(HERE, 'top', place, tag, thing), right)
            self.assertIs(lets_take(HERE, 'idle', 1, tag, take_paper(HERE, 'idle', 1, tag)), False)

    def test_changed_runs(self):
        more = ((0, 'fork', -1), (2, 'exit', -1), (0, 'take', 2))
        self.assertIs(lets_take(HERE, 'top', 1, 't', ('run', TAKE)), True)
        self.assertIs(lets_take(HERE, 'top', 3, 'u', ('run', TAKE + more)), True)
        for take, run in ((('top', 1, 't'), ()), (('top', 1, 't'), TAKE[:2]), (('top', 1, 't'), TAKE + more[:1]),
                          (('top', 1, 't'), TAKE + more), (('top', 3, 'u'), TAKE), (('top', 3, 't'), TAKE),
                          (('top', 3, 't'), TAKE + more), (('top', 1, 'u'), TAKE), (('idle', 1, 't'), TAKE),
                          (('top', 3, 'u'), TAKE + more + ((0, 'exit', -1),))):
            self.assertEqual(refusal(lets_take, HERE, *take, ('run', run)), paper('take', -1))
        for run in (TAKE[1:], TAKE + TAKE[2:], TAKE[:1] + TAKE[2:], TAKE[:2] + ((0, 'take', 0),), TAKE[:2] + ((0, 'none', -1),),
                    list(TAKE), TAKE[:2] + ([0, 'take', 1],), None, TAKE + (None,)):
            self.assertEqual(refusal(lets_take, HERE, 'top', 1, 't', ('run', run)), paper('paper', -1))

    def test_drawn_runs(self):
        """All takes of drawn runs, and the same runs for other takes, longer and shorter, with one step changed."""
        rng = random.Random(482)
        words = {}
        for system in list(SYSTEMS) * 3 + lively_systems(483, 40, places=8):
            waits = [(kind[0], place) for kind in system for place in waits_in(system, kind[0])]
            run = random_run(rng, system, 40)
            ends = [k + 1 for k, step in enumerate(run) if step[1] == 'take']
            for end in ends[:4]:
                model = plays(system, run[:end - 1])
                taker = model.all[run[end - 1][0]]
                take = (taker.kind, taker.place, model.all[run[end - 1][2]].tag)
                self.assertIsNone(self.agree(system, *take, ('run', run[:end])))
                other = (*rng.choice(waits), rng.choice(tags_in(system)))
                k = rng.randrange(end)
                step = rng.choice(((run[k][0], 'exit', -1), (run[k][0], 'take', 1), (run[k][0] + 1, *run[k][1:]), None))
                for asked, changed_run in ((other, run[:end]), (take, run[:end - 1]), (take, run[:end + 1]),
                                           (take, run[:k] + (step,) + run[k + 1:end]), (take, run[:k] + run[k + 1:end])):
                    word = self.agree(system, *asked, ('run', changed_run))
                    words[word] = words.get(word, 0) + 1
        self.assertTrue(min(words[word] for word in (None, 'take', 'paper')) > 4, words)

    def test_larger_tables(self):
        """Closed tables that are larger than the least ones: with all there could be, each such take is shown."""
        for system in (SYSTEM, HERE):
            tables = tuple(tuple((state, ANY, ANY, FROM_1, FROM_1) for state in all_states(kind)) for kind in system)
            for kind in system:
                for place in waits_in(system, kind[0]):
                    for tag in (*tags_in(system), 'nosuch'):
                        i = [known[0] for known in system].index(kind[0])
                        rows = rows_showing(system, tables, kind[0], place, tag)
                        told = refusal(lets_take, system, kind[0], place, tag, ('tables', tables))
                        self.assertEqual(told, paper('number', rows[0]) if rows else None)
                        if kind[2][place][2] != -1 and rows:
                            self.assertEqual(rows[0], [state[0] for state in all_states(system[i])].index(place))
        # More numbers with the tag in a kind ask for more in those that fork it.
        tables = least_tables(SYSTEM, 'l')
        more = changed(tables, 1, 1, (*tables[1][1][:3], FROM_1, FROM_1))
        self.assertEqual(self.agree(SYSTEM, 'main', 3, 'l', ('tables', more)), 'paper')

    def test_kinds_that_come_only_through_others(self):
        """A row of a kind that comes by tables alone shows a take; it comes by a row with some number."""
        one = ('one', (), (('go', (1, 2)), ('fork', 'two', 'p', '', 2), ('exit', 0)))
        two = ('two', (), (('fork', 'top', 'q', '', 1), ('exit', 1)))
        system = (one, two, *HERE)
        for take in (('top', 1, 't'), ('top', 3, 'u')):
            self.assertIs(lets_take(system, *take, take_paper(system, *take)), True)
            tables = least_tables(system, take[2])
            k = rows_showing(system, tables, *take)[0]
            self.assertEqual(refusal(lets_take, system, *take, ('tables', tables)), paper('number', k))
        # Without the fork the kind does not come, though its table shows the take; also not by a row without numbers.
        cut = (one, ('two', (), (('exit', 1), ('fork', 'top', 'q', '', 1))), *HERE)
        tables = least_tables(cut, 't')
        self.assertIs(lets_take(cut, 'top', 1, 't', ('tables', tables)), False)
        empty = tables[:1] + (tables[1] + (((1, ()), NONE, NONE, NONE, NONE),),) + tables[2:]
        self.assertIs(lets_take(cut, 'top', 1, 't', ('tables', empty)), False)
        more = tables[:1] + (tables[1] + (((1, ()), NONE, ((3,), (), 0), NONE, NONE),),) + tables[2:]
        self.assertEqual(self.agree(cut, 'top', 1, 't', ('tables', more)), 'paper')
        open_all = tables[:1] + (tables[1] + (((1, ()), NONE, ANY, NONE, NONE),),) + tables[2:]
        self.assertEqual(self.agree(cut, 'top', 1, 't', ('tables', open_all)), 'number')

    def test_rows_without_numbers(self):
        """A row shows a take only if it has a settled or unsettled number."""
        tables = least_tables(SYSTEM, 'nosuch')
        kind = ('kind', ('a',), (('exit', 0), ('fork', 'lib', 't', 'a', 0), ('wait', (('a', 0, 0, 0),), 0, 0, ())))
        rows = (((0, ((),)), ((0,), (), 0), NONE, NONE, NONE), ((2, ((1, 0),)), NONE, NONE, NONE, NONE))
        more = rows[:1] + (((2, ((),)), NONE, NONE, FROM_1, NONE),)
        for told in (rows, more):
            self.assertIn(self.agree((kind, LIB), 'kind', 2, 't', ('tables', (told, tables[2]))), (None, 'paper'))
        self.assertIs(lets_take((kind, LIB), 'kind', 2, 't', ('tables', (rows, tables[2]))), False)

    def test_several_faults(self):
        open_tables = (least_tables(HERE, 't')[0][:1], *least_tables(HERE, 't')[1:])
        for thing, word in ((('run', TAKE, None), 'shape'), (('runs', TAKE), 'shape'), (['run', TAKE], 'shape'), (('run',), 'shape'),
                            (('tables', open_tables), 'paper'), (('run', least_tables(HERE, 't')), 'paper'),
                            (('tables', TAKE), 'paper'), (('run', TAKE[:1] + TAKE[2:] + TAKE[:1]), 'paper'),
                            ((0, TAKE), 'shape'), ((None, None), 'shape'), ((('run',), TAKE), 'shape')):
            self.assertEqual(refusal(lets_take, HERE, 'top', 1, 't', thing), paper(word, -1))
        for thing in (('run', TAKE[1:]), ('tables', open_tables), ('tables', None)):
            with self.assertRaises(InvalidPaper) as caught:
                lets_take(HERE, 'top', 1, 't', thing)
            self.assertIsInstance(caught.exception.__cause__, InvalidPaper)
            self.assertNotEqual(caught.exception.__cause__.word, 'paper')

    def test_values_of_every_kind(self):
        words = set()
        for take, thing in ((('top', 1, 't'), ('run', TAKE)), (('idle', 1, 'nosuch'), ('tables', least_tables((IDLE, LIB), 't')))):
            system = HERE if thing[0] == 'run' else (IDLE, LIB)
            for wrong in spoiled(thing):
                words.add(self.agree(system, *take, wrong))
            for wrong in odd_values():
                self.assertEqual(self.agree(system, *take, wrong), 'shape')
                for word in ('run', 'tables'):
                    self.agree(system, *take, (word, wrong))
        self.assertEqual(words, {None, 'shape', 'paper', 'take'})

    def test_refused(self):
        for wrong in odd_values() + [(), SYSTEM[:2]]:
            self.assertEqual(refusal(lets_take, wrong, None, None, None, None), not_usable('system'))
        for wrong in odd_values() + ['nosuch', 0, ('main',)]:
            self.assertEqual(refusal(lets_take, SYSTEM, wrong, None, None, None), not_usable('kind'))
        for wrong in odd_values() + [0, 1, 5, 6, 7, 10 ** 59, '2', (2,)]:
            self.assertEqual(refusal(lets_take, SYSTEM, 'main', wrong, None, None), not_usable('place'))
        for wrong in odd_values() + ['', 'Tag', 'abcdefghi', 0, ('x',)]:
            self.assertEqual(refusal(lets_take, SYSTEM, 'main', 2, wrong, None), not_usable('tag'))
        for system, kind, place, tag in ((BUSY, 'top', 3, 'z'), (KEEPER, 'keep', 3, 'x')):
            self.assertIs(lets_take(system, kind, place, tag, take_paper(system, kind, place, tag)),
                          can_take(system, kind, place, tag))


if __name__ == '__main__':
    unittest.main()

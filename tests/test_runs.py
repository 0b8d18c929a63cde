"""[25], [26]: which values are runs, and what single processes do in them."""

import random
import unittest

from forkyields import runs
from forkyields.kinds import is_step
from tests.model import Model, model_behind, random_run
from tests.samples import BUSY, LIB, RUN, SYSTEM, SYSTEMS, not_usable, odd_values, random_systems, refusal, same, spoiled
from tests.test_trees import runs as random_runs

WORDS = {'go': ['go'], 'fork': ['fork'], 'wait': ['take', 'none'], 'poll': ['take', 'none', 'later'],
         'kill': ['kill'], 'release': ['release'], 'exit': ['exit']}


def paper(word, at):
    return ('InvalidPaper', {'word': word, 'at': at})


def told_by_model(system, thing):
    """The refusal of a tuple as a run, None if it is one."""
    model = Model(system)
    for k, step in enumerate(thing):
        if not is_step(step):
            return paper('step', k)
        living = {process.number: process for process in model.living()}
        if step[0] not in living:
            return paper('process', k)
        if step[1] not in WORDS[model.instruction(living[step[0]])[0]]:
            return paper('word', k)
        if step not in model.steps():
            return paper('number', k)
        model.do(step)
    return None


class LetsRunTest(unittest.TestCase):
    def test_examples(self):
        self.assertEqual(runs.lets_run(SYSTEM, RUN), 4)
        self.assertEqual(refusal(runs.lets_run, SYSTEM, RUN[:3] + ((0, 'take', 1),)), paper('number', 3))

    def test_runs(self):
        for system, run in random_runs(30, 40, 40):
            self.assertEqual(runs.lets_run(system, run), len(model_behind(system, run).all))
            self.assertIs(runs.is_run(system, run), True)
            self.assertEqual(runs.lets_run(system=system, thing=run), 1 + sum(step[1] == 'fork' for step in run))
            self.assertIs(runs.is_run(system=system, thing=list(run)), False)

    def test_long_runs(self):
        loop = (('loop', ('s',), (('fork', 'lib', 'm', 's', 1), ('go', (0,)))), LIB)
        run = ((0, 'fork', -1), (0, 'go', 0)) * 100
        self.assertEqual(runs.lets_run(loop, run), 101)
        self.assertEqual(runs.lets_run(loop, run + tuple((k, 'exit', -1) for k in range(1, 101))), 101)
        self.assertEqual(refusal(runs.lets_run, loop, run + ((0, 'go', 0),)), paper('word', 200))

    def agree(self, system, thing):
        right = told_by_model(system, thing)
        self.assertEqual(refusal(runs.lets_run, system, thing), right, thing)
        self.assertIs(runs.is_run(system, thing), right is None)
        return right and right[1]['word']

    def test_no_runs(self):
        rng = random.Random(31)
        met = set()
        for system in list(SYSTEMS) + random_systems(31, 60):
            for _ in range(12):
                run = list(random_run(rng, system, 25)) or [(0, 'exit', -1)]
                k = rng.randrange(len(run))
                change = rng.randrange(5)
                if change == 0:
                    del run[k]
                elif change == 1:
                    p, word, number = run[k]
                    run[k] = rng.choice([(p + 1, word, number), (p, word, number + 1), (p, 'exit', -1), (p, 'take', 1),
                                         (p, 'none', -1), (p, 'later', -1), (p, 'go', 0), (p, 'kill', -1),
                                         (p, 'release', -1), (p, 'fork', -1), (99, word, number), (0, 'take', 0)])
                elif change == 2:
                    run.insert(k, rng.choice(run))
                elif change == 3:
                    m = rng.randrange(len(run))
                    run[k], run[m] = run[m], run[k]
                else:
                    run[k] = rng.choice(odd_values() + [list(run[k]), run[k][:2], (True, 'fork', -1), (0, 'fork', 0)])
                met.add(self.agree(system, tuple(run)))
        self.assertEqual(met, {None, 'step', 'process', 'word', 'number'})

    def test_no_tuples(self):
        for thing in odd_values() + [list(RUN), 'a', 1, {}]:
            if not isinstance(thing, tuple):
                self.assertEqual(refusal(runs.lets_run, SYSTEM, thing), paper('shape', -1))
                self.assertIs(runs.is_run(SYSTEM, thing), False)

    def test_no_steps(self):
        for wrong in spoiled((0, 'fork', -1)):
            if not is_step(wrong):
                for k in range(4):
                    self.assertEqual(refusal(runs.lets_run, SYSTEM, RUN[:k] + (wrong,) + RUN[k + 1:]), paper('step', k))

    def test_each_word(self):
        for step, word in (((1, 'fork', -1), 'process'), ((0, 'go', 1), 'word'), ((0, 'take', 1), 'word'),
                           ((0, 'none', -1), 'word'), ((0, 'exit', -1), 'word'), ((0, 'fork', 0), 'step')):
            self.assertEqual(refusal(runs.lets_run, SYSTEM, (step,)), paper(word, 0))
        at_wait = RUN[:2]
        for step, word in (((0, 'take', 1), 'number'), ((0, 'take', 99), 'number'), ((0, 'take', 0), 'number'),
                           ((0, 'none', -1), 'number'), ((0, 'later', -1), 'word'), ((0, 'fork', -1), 'word')):
            self.assertEqual(refusal(runs.lets_run, SYSTEM, at_wait + (step,)), paper(word, 2))
        at_poll = ((0, 'fork', -1), (0, 'fork', -1), (0, 'go', 3))
        self.assertTrue(runs.is_run(BUSY, at_poll + ((0, 'later', -1),)))
        self.assertEqual(refusal(runs.lets_run, BUSY, at_poll + ((0, 'none', -1),)), paper('number', 3))
        self.assertEqual(refusal(runs.lets_run, BUSY, at_poll[:2] + ((0, 'go', 1),)), paper('number', 2))
        self.assertEqual(refusal(runs.lets_run, SYSTEM, RUN + ((3, 'exit', -1),)), paper('process', 6))
        self.assertEqual(refusal(runs.lets_run, SYSTEM, RUN + ((2, 'exit', -1),)), paper('process', 6))

    def test_no_system(self):
        for wrong in odd_values() + [(), SYSTEM[:2]]:
            for call in (runs.is_run, runs.lets_run, runs.takes_in):
                self.assertEqual(refusal(call, wrong, None), not_usable('system'))
            for call in (runs.view_of, runs.family_of):
                self.assertEqual(refusal(call, wrong, None, None), not_usable('system'))


def told_runs(system, run):
    """The views of all processes, the rows of takes and the families, from the model alone."""
    model = Model(system)
    views, takes = {}, []
    for k, step in enumerate(run):
        p, word, number = step
        process = model.all[p]
        instruction = model.instruction(process)
        seen = {'go': ('go', '', number), 'fork': ('fork', instruction[-2], -1),
                'kill': ('kill', instruction[1], -1), 'release': ('release', instruction[1], -1),
                'exit': ('exit', '', instruction[1])}.get(word, (word, '', -1))
        if word == 'take':
            child = model.all[number]
            seen = ('take', child.where, child.code if child.where else -1)
            takes.append((k, p, process.place, number, child.tag, child.tag in instruction[-1]))
        views.setdefault(p, []).append(seen)
        model.do(step)
    families = {process.number: [process.number] for process in model.all}
    for process in model.all[::-1]:
        if process.forker != -1:
            families[process.forker] += families[process.number]
    return views, tuple(takes), families


class ViewsTest(unittest.TestCase):
    def test_example(self):
        self.assertEqual([runs.view_of(SYSTEM, RUN, 0), runs.takes_in(SYSTEM, RUN), runs.family_of(SYSTEM, RUN, 2)],
                         [(('fork', 'h', -1), ('fork', '', -1), ('take', '', -1)), ((5, 0, 2, 3, 'x', False),), (2, 3)])

    def test_against_the_model(self):
        met = set()
        for system, run in random_runs(32, 100, 50):
            views, takes, families = told_runs(system, run)
            self.assertTrue(same(runs.takes_in(system, run), takes))
            met |= {('meant', row[5]) for row in takes}
            for process, family in families.items():
                view = tuple(views.get(process, ()))
                self.assertTrue(same(runs.view_of(system, run, process), view))
                self.assertTrue(same(runs.family_of(system, run, process), tuple(sorted(family))))
                met |= {(word, bool(slot), code) for word, slot, code in view if word != 'go'}
        self.assertEqual(met, {('meant', True), ('meant', False), ('fork', True, -1), ('fork', False, -1),
                               ('take', True, 0), ('take', True, 1), ('take', True, 2), ('take', False, -1),
                               ('none', False, -1), ('later', False, -1), ('kill', True, -1), ('release', True, -1),
                               ('exit', False, 0), ('exit', False, 1)})

    def test_takes(self):
        run = RUN + ((1, 'exit', -1), (0, 'take', 1))
        self.assertEqual(runs.takes_in(SYSTEM, run), ((5, 0, 2, 3, 'x', False), (7, 0, 4, 1, 'l', True)))
        self.assertEqual(runs.takes_in(SYSTEM, RUN[:5]), ())
        self.assertEqual(runs.view_of(SYSTEM, run, 0)[-1], ('take', 'h', 0))
        self.assertEqual(runs.view_of(SYSTEM, run, 3), (('exit', '', 0),))
        self.assertEqual(runs.family_of(SYSTEM, run, 0), (0, 1, 2, 3))
        self.assertEqual(runs.family_of(SYSTEM, run, 3), (3,))

    def test_refusals(self):
        for wrong in odd_values() + [list(RUN), RUN[1:], RUN + RUN]:
            self.assertEqual(refusal(runs.takes_in, SYSTEM, wrong), not_usable('run'))
            for call in (runs.view_of, runs.family_of):
                self.assertEqual(refusal(call, SYSTEM, wrong, None), not_usable('run'))
        for wrong in odd_values() + [4, 10 ** 59, 'a', (), (0,)]:
            for call in (runs.view_of, runs.family_of):
                self.assertEqual(refusal(call, SYSTEM, RUN, wrong), not_usable('process'))

    def test_by_name(self):
        self.assertEqual(runs.view_of(system=SYSTEM, run=RUN, process=1), ())
        self.assertEqual(runs.takes_in(system=SYSTEM, run=()), ())
        self.assertEqual(runs.family_of(system=SYSTEM, run=(), process=0), (0,))


if __name__ == '__main__':
    unittest.main()

"""The interface: each name is defined in its file, with the parameters that the document lists."""

import ast
import importlib
import inspect
import pathlib
import unittest

PACKAGE = pathlib.Path(__file__).resolve().parent.parent / 'forkyields'
FUNCTIONS = {
    'kinds': ['is_integer(thing)', 'is_number(thing)', 'is_name(thing)', 'is_name_set(thing)',
              'is_instruction(thing)', 'is_kind(thing)', 'is_system(thing)', 'is_step(thing)', 'is_state(thing)'],
    'systemchecker': ['lets_system(thing)'],
    'numbersets': ['is_number_set(thing)', 'number_set(members, *, first=0, period=0)', 'has_number(told, number)',
                   'all_within(told, other)', 'joined_sets(told, *others)', 'most_in(told)', 'moved_set(told, by)',
                   'first_numbers(told, many)'],
    'systemparts': ['kind_names(system)', 'index_of(system, kind)', 'slots_of(system, kind)',
                    'next_places(system, kind, place)', 'forks_in(system, kind)', 'waits_in(system, kind)',
                    'tags_in(system)', 'in_range(system, kind, place)', 'is_meant(system, kind, place, tag)',
                    'cut_at(system, kind)'],
    'systemchanges': ['with_kind(system, kind, *, at=0)', 'without_kind(system, kind)',
                      'with_instruction(system, kind, place, instruction)', 'exchanged(system, old, new)',
                      'excluded(system, *exclusions)', 'turned(system)', 'renamed(system, old, new)',
                      'retagged(system, old, new)'],
    'systemtexts': ['instruction_text(instruction)', 'system_text(system)'],
    'systemreadings': ['read_instruction(text)', 'read_system(text)'],
    'trees': ['tree_after(system, run)', 'next_steps(system, run)', 'is_at_rest(system, run)',
              'parent_of(system, run, process)', 'children_of(system, run, process)',
              'lying_with(system, run, process)', 'forker_of(system, run, process)'],
    'runs': ['is_run(system, thing)', 'lets_run(system, thing)', 'view_of(system, run, process)',
             'takes_in(system, run)', 'family_of(system, run, process)'],
    'earlyruns': ['early_numbers(system, run)', 'early_run(system, run)', 'is_early(system, run)'],
    'allruns': ['runs_of(system, length)'],
    'runreadings': ['read_step(text)', 'read_run(system, text)'],
    'runtexts': ['step_text(step)', 'run_text(system, run)'],
    'pictures': ['picture(system, run)'],
    'states': ['first_state(system, kind)', 'state_of(system, run, process)', 'pool_of(system, run, process)'],
    'tables': ['table_of(system, kind)', 'tables_of(system)'],
    'tablechecker': ['lets_tables(system, thing)'],
    'accounts': ['account_of(system, kind)', 'reach_of(system, kind, code)'],
    'lives': ["run_to(system, kind, state, number, *, living=False, tag='')",
              'life_of(system, kind, code, number, *, living=False)'],
    'counts': ['counted_run(system, kind, state, number, *, living=False)', 'lets_count(system, kind, thing)'],
    'probes': ["settled_probe(kind, code, number, *, called='probe')",
               "reach_probe(kind, code, number, *, called='probe')"],
    'exchanges': ['can_replace(system, old, new)', 'are_alike(system, old, new)', 'parting(system, old, new)'],
    'tagtables': ['tag_table(system, kind, tag)', 'tag_account(system, kind, tag)'],
    'tagchecker': ['lets_tag_tables(system, tag, thing)'],
    'takers': ['comes(system, kind)', 'can_take(system, kind, place, tag)', 'foreign_takes(system)', 'is_calm(system)',
               'take_paper(system, kind, place, tag)'],
    'takechecker': ['lets_take(system, kind, place, tag, thing)'],
    'outside': ['outside_tags(system)', 'outside_paper(system, tag)'],
    'outsidechecker': ['lets_outside(system, tag, thing)'],
    'resting': ['sleeps(system, kind)', 'stuck_states(system, kind)', 'rest_table(system, kind)',
                'rest_account(system, kind)', 'tags_at_rest(system)',
                "rest_probe(kind, code, number, *, called='probe')", 'alike_at_rest(system, old, new)'],
    'restruns': ['rest_run(system, kind, state)', 'resting_run(system, kind, state, number)'],
    'gaps': ['none_places(system)', 'dead_places(system)'],
    'heaps': ['most_lying(system, kind)', 'heap_paper(system, kind)'],
    'heapchecker': ['lets_heap(system, kind, thing)'],
    'exclusions': ['exclusions_of(system)', 'leaves_calm(system, exclusions)', 'newly_stuck(system, exclusions)',
                   'least_exclusions(system)', 'greatest_others(system)', 'exclusion_paper(system)'],
    'exclusionchecker': ['lets_exclusions(system, thing)'],
    'yardevents': ['is_event(thing)'],
    'yardlogs': ['is_log(thing)', 'replayed(log)'],
    'yardtexts': ['event_line(event)', 'log_lines(log)'],
    'yardreadings': ['read_event(text)', 'read_log(lines)'],
}
CLASSES = {
    'numberclasses': {'Numbers': ['told=((), (), 0)', 'told', 'of', 'every', 'none', '__contains__', '__bool__',
                                  '__getitem__', '__str__', '__iter__', '__le__', '__ge__', '__eq__', '__or__',
                                  '__add__', '__radd__', '__sub__']},
    'systemclasses': {'System': ['kinds', 'kinds_now', 'names_now', '__getitem__', '__contains__', '__len__',
                                 '__iter__', '__eq__', '__str__', '__add__', 'fronted', '__sub__', '__call__',
                                 'of', 'read'],
                      'Excluded': ['kinds, *exclusions', 'whole'],
                      'Turned': ['kinds', 'whole']},
    'runclasses': {'Run': ['system, steps=()', 'run_now', 'tree_now', '__add__', '__getitem__', '__contains__', '__len__',
                           '__iter__', '__str__', '__eq__', '__le__', '__ge__', 'read', '__bool__'],
                   'Driver': ['system', 'run_now', 'tree_now', 'next_now', 'go', '__iadd__', 'back', 'trial', 'tried']},
    'accountclasses': {'Account': ['parts', 'of', 'parts_now', '__getitem__', 'reach', '__le__', '__ge__', '__eq__',
                                   '__or__', '__bool__', '__str__', '__iter__']},
    'yards': {'Yard': ["system, *, guard='off'", 'MOST', 'run_now', 'tree_now', 'excluded_now', 'system_now', 'guard_now',
                       'next_now', 'waiting_now', 'foreign_now', 'happen', 'do_step', 'exclude', 'allow', 'set_guard', 'mark',
                       '__iadd__', 'barred', 'tried', 'trial', 'undo', 'do_all', 'counts', 'lying', 'state_now', 'taken_since',
                       'forked_since', 'tally', 'table', 'log', '__getitem__', '__contains__', '__len__', '__eq__']},
    'desks': {'Desk': ['system', 'say', 'counts']},
}
METHODS = {
    'yards': {'happen': 'event', 'do_step': 'process, word, number', 'exclude': 'kind, place, slot', 'allow': 'kind, place, slot',
              'set_guard': 'guard', 'mark': 'name', 'barred': 'event', 'tried': '*events', 'trial': '', 'undo': '',
              'do_all': '*events, keep=False', 'counts': '', 'lying': 'process', 'state_now': 'process', 'taken_since': 'name',
              'forked_since': 'name', 'tally': '', 'table': '', 'log': ''},
    'desks': {'say': 'row', 'counts': ''},
}


def defined_in(module):
    tree = ast.parse((PACKAGE / f'{module}.py').read_text())
    return {node.name for node in tree.body if isinstance(node, (ast.FunctionDef, ast.ClassDef))}


class InterfaceTest(unittest.TestCase):
    def test_functions(self):
        for module, listed in FUNCTIONS.items():
            for text in listed:
                name = text.partition('(')[0]
                self.assertIn(name, defined_in(module))
                made = getattr(importlib.import_module(f'forkyields.{module}'), name)
                self.assertEqual(name + str(inspect.signature(made)), text)

    def test_classes(self):
        for module, listed in CLASSES.items():
            for name, (parameters, *own) in listed.items():
                self.assertIn(name, defined_in(module))
                made = getattr(importlib.import_module(f'forkyields.{module}'), name)
                self.assertEqual(str(inspect.signature(made)), f'({parameters})')
                for method in own:
                    self.assertIn(method, vars(made), name)

    def test_methods(self):
        for module, listed in METHODS.items():
            name = list(CLASSES[module])[0]
            made = getattr(importlib.import_module(f'forkyields.{module}'), name)
            for method, parameters in listed.items():
                right = f'(self, {parameters})' if parameters else '(self)'
                self.assertEqual(str(inspect.signature(getattr(made, method))), right)


if __name__ == '__main__':
    unittest.main()

"""The interface: each name is defined in its file, with the parameters that the document lists."""

import ast
import importlib
import inspect
import pathlib
import unittest

PACKAGE = pathlib.Path(__file__).resolve().parent.parent / 'forkyields'
FUNCTIONS = {
    'kinds': ['is_integer(thing)', 'is_number(thing)', 'is_name(thing)', 'is_name_set(thing)',
              'is_instruction(thing)', 'is_kind(thing)', 'is_system(thing)', 'is_step(thing)', 'is_state(thing)'],
    'systemchecker': ['lets_system(thing)'],
    'numbersets': ['is_number_set(thing)', 'number_set(members, *, first=0, period=0)', 'has_number(told, number)',
                   'all_within(told, other)', 'joined_sets(told, *others)', 'most_in(told)', 'moved_set(told, by)',
                   'first_numbers(told, many)'],
    'systemparts': ['kind_names(system)', 'index_of(system, kind)', 'slots_of(system, kind)',
                    'next_places(system, kind, place)', 'forks_in(system, kind)', 'waits_in(system, kind)',
                    'tags_in(system)', 'in_range(system, kind, place)', 'is_meant(system, kind, place, tag)',
                    'cut_at(system, kind)'],
    'systemchanges': ['with_kind(system, kind, *, at=0)', 'without_kind(system, kind)',
                      'with_instruction(system, kind, place, instruction)', 'exchanged(system, old, new)',
                      'excluded(system, *exclusions)', 'turned(system)', 'renamed(system, old, new)',
                      'retagged(system, old, new)'],
    'systemtexts': ['instruction_text(instruction)', 'system_text(system)'],
    'systemreadings': ['read_instruction(text)', 'read_system(text)'],
    'trees': ['tree_after(system, run)', 'next_steps(system, run)', 'is_at_rest(system, run)',
              'parent_of(system, run, process)', 'children_of(system, run, process)',
              'lying_with(system, run, process)', 'forker_of(system, run, process)'],
    'runs': ['is_run(system, thing)', 'lets_run(system, thing)', 'view_of(system, run, process)',
             'takes_in(system, run)', 'family_of(system, run, process)'],
    'earlyruns': ['early_numbers(system, run)', 'early_run(system, run)', 'is_early(system, run)'],
    'allruns': ['runs_of(system, length)'],
    'runreadings': ['read_step(text)', 'read_run(system, text)'],
}
CLASSES = {
    'numberclasses': {'Numbers': ['told=((), (), 0)', 'told', 'of', 'every', 'none', '__contains__', '__bool__',
                                  '__getitem__', '__str__', '__iter__', '__le__', '__ge__', '__eq__', '__or__',
                                  '__add__', '__radd__', '__sub__']},
    'systemclasses': {'System': ['kinds', 'kinds_now', 'names_now', '__getitem__', '__contains__', '__len__',
                                 '__iter__', '__eq__', '__str__', '__add__', 'fronted', '__sub__', '__call__',
                                 'of', 'read'],
                      'Excluded': ['kinds, *exclusions', 'whole'],
                      'Turned': ['kinds', 'whole']},
}


def defined_in(module):
    tree = ast.parse((PACKAGE / f'{module}.py').read_text())
    return {node.name for node in tree.body if isinstance(node, (ast.FunctionDef, ast.ClassDef))}


class InterfaceTest(unittest.TestCase):
    def test_functions(self):
        for module, listed in FUNCTIONS.items():
            for text in listed:
                name = text.partition('(')[0]
                self.assertIn(name, defined_in(module))
                made = getattr(importlib.import_module(f'forkyields.{module}'), name)
                self.assertEqual(name + str(inspect.signature(made)), text)

    def test_classes(self):
        for module, listed in CLASSES.items():
            for name, (parameters, *own) in listed.items():
                self.assertIn(name, defined_in(module))
                made = getattr(importlib.import_module(f'forkyields.{module}'), name)
                self.assertEqual(str(inspect.signature(made)), f'({parameters})')
                for method in own:
                    self.assertIn(method, vars(made), name)


if __name__ == '__main__':
    unittest.main()

"""Rules of LANGUAGE.md that can be read off the files of the package; some are held narrower than they are told."""

import ast
import builtins
import functools
import keyword
import pathlib
import re
import symtable
import unittest

PACKAGE = pathlib.Path(__file__).resolve().parent.parent / 'forkyields'
FILES = sorted(PACKAGE.glob('*.py'))
TREES = {path: ast.parse(path.read_text(), str(path)) for path in FILES}
LIBRARY = {'math': {'gcd', 'lcm', 'isqrt', 'comb', 'perm', 'factorial'}}
# Shown examples leave their last value among the builtins, as _.
BUILTIN_NAMES = set(dir(builtins)) - {'_'}
BUILTINS = set(
    'len range enumerate zip min max sum abs sorted reversed int str bool list tuple dict set isinstance ord repr any '
    'all divmod Exception ValueError TypeError KeyError IndexError LookupError ZeroDivisionError ArithmeticError '
    'OverflowError RuntimeError NotImplementedError AttributeError StopIteration NotImplemented iter next super '
    'property staticmethod classmethod'.split())
METHODS = set(
    'append clear copy count endswith extend find get index insert isalnum isalpha isdigit islower isspace isupper '
    'items join keys ljust lower lstrip partition pop remove replace reverse rfind rjust rpartition rsplit rstrip '
    'setdefault split splitlines startswith strip update upper values zfill bit_length'.split())
DUNDERS = set(
    '__init__ __eq__ __repr__ __str__ __len__ __enter__ __exit__ __call__ __iter__ __lt__ __le__ __gt__ __ge__ __ne__ '
    '__add__ __sub__ __mul__ __floordiv__ __mod__ __pow__ __and__ __or__ __xor__ __lshift__ __rshift__ __radd__ '
    '__rsub__ __rmul__ __ror__ __rand__ __iadd__ __isub__ __ior__ __neg__ __pos__ __invert__ __abs__ __bool__ '
    '__contains__ __getitem__ __setitem__'.split())
BARRED = set(
    'register mro elements open input law version_info with_traceback add_note attrgetter breakpoint builtins compile '
    'copyright credits delattr dir eval exec exit gc getattr globals hasattr help id importlib license locals '
    'methodcaller os quit setattr super type vars sys __name__ _cold _tuplegetter _outside _record _written_out '
    '_member_names'.split())
WORDS = re.compile(
    r'\b(type|typing|typing_extensions|enum|Enum|IntEnum|StrEnum|Flag|IntFlag|Generic|Protocol|ABC|ABCMeta|namedtuple|'
    r'NamedTuple|TypedDict|TYPE_CHECKING|abstractmethod|_wall|_WallAttr)\b|dataclass|overload|contextmanager|'
    r'\(type\)|Meta|metaclass=')
STATEMENTS = (ast.Assign, ast.If, ast.While, ast.For, ast.Return, ast.Break, ast.Continue, ast.Pass, ast.Raise,
              ast.Assert, ast.With, ast.Try, ast.Expr, ast.FunctionDef, ast.ClassDef, ast.ImportFrom, ast.arguments)


def nodes(*kinds):
    for path, tree in TREES.items():
        for node in ast.walk(tree):
            if isinstance(node, kinds):
                yield path, node


def is_call_of(node, *names):
    return isinstance(node, ast.Call) and isinstance(node.func, ast.Name) and node.func.id in names


@functools.cache
def classes():
    return {node.name: node for _, node in nodes(ast.ClassDef)}


@functools.cache
def own_methods():
    return {node.name for made in classes().values() for node in made.body if isinstance(node, ast.FunctionDef)}


def bound_names(path):
    """All names that a file binds, with those of functions, parameters, variables and caught errors."""
    found = set()
    for node in ast.walk(TREES[path]):
        if isinstance(node, (ast.FunctionDef, ast.ClassDef)):
            found.add(node.name)
        elif isinstance(node, ast.arg):
            found.add(node.arg)
        elif isinstance(node, ast.Name) and not isinstance(node.ctx, ast.Load):
            found.add(node.id)
        elif isinstance(node, ast.ExceptHandler) and node.name:
            found.add(node.name)
        elif isinstance(node, ast.alias):
            found.add(node.name)
    return found


def marks_of(node):
    return [ast.unparse(mark) for mark in node.decorator_list]


def changes(method):
    """Whether a method of a class may change something: all but operators, properties and the like."""
    if not method.name.startswith('__'):
        return marks_of(method) != ['property']
    return method.name in ('__init__', '__call__', '__enter__', '__exit__', '__setitem__') or method.name[2] == 'i'


def run_by_operators():
    """All functions and methods that an operator or a property runs, itself among them, found by their names."""
    made = {}
    for path, tree in TREES.items():
        for node in tree.body:
            if isinstance(node, ast.FunctionDef):
                made.setdefault(node.name, []).append((path, node))
            for part in node.body if isinstance(node, ast.ClassDef) else ():
                if isinstance(part, ast.FunctionDef):
                    made.setdefault(part.name, []).append((path, part))
                    if part.name == '__init__':
                        made.setdefault(node.name, []).append((path, part))
    pending = [(path, part) for path, node in nodes(ast.ClassDef) for part in node.body
               if isinstance(part, ast.FunctionDef) and not changes(part)]
    found = {}
    while pending:
        path, node = pending.pop()
        if id(node) in found:
            continue
        found[id(node)] = (path, node)
        for part in ast.walk(node):
            if isinstance(part, ast.Call):
                name = part.func.id if isinstance(part.func, ast.Name) else part.func.attr
                pending.extend(made.get(name, ()))
    return list(found.values())


class RulesTest(unittest.TestCase):
    def holds(self, told, path, node, rule):
        self.assertTrue(told, f'{rule}: {path.name}:{getattr(node, "lineno", node)}')

    def test_files(self):
        for path in PACKAGE.iterdir():
            if path.name != '__pycache__':
                self.holds(path.is_file() and re.fullmatch(r'[a-z0-9_]+\.py', path.name), path, 0, 'L1 L14')
        self.assertLessEqual(len(FILES), 100)
        for path in FILES:
            self.assertNotIn(path.stem, BUILTIN_NAMES)
            self.assertNotRegex(path.stem, r'^(test|law)')
            lines = path.read_text().split('\n')
            self.holds(len(lines) <= 400, path, len(lines), 'L10')
            for k, line in enumerate(lines):
                self.holds(len(line) <= 120 and re.fullmatch('[ -~]*', line), path, k + 1, 'L10 L14')

    def test_sizes(self):
        for path, node in nodes(ast.FunctionDef):
            first = min([node.lineno] + [mark.lineno for mark in node.decorator_list])
            self.holds(node.end_lineno - first < 40, path, node, 'L10')

    def test_module_level(self):
        for path, tree in TREES.items():
            for k, node in enumerate(tree.body):
                docstring = k == 0 and isinstance(node, ast.Expr) and isinstance(node.value, ast.Constant)
                plain = (isinstance(node, ast.Assign) and len(node.targets) == 1
                         and isinstance(node.targets[0], ast.Name) and self.is_plain(node.value))
                self.holds(docstring or plain or isinstance(node, (ast.ImportFrom, ast.FunctionDef, ast.ClassDef)),
                           path, node, 'L3')
            names = [name for node in tree.body for name in self.bound_by(node)]
            self.assertEqual(len(names), len(set(names)), path)
            seen = [isinstance(node, ast.ImportFrom) for node in tree.body[1:]]
            self.assertEqual(seen, sorted(seen, reverse=True), path)

    def is_plain(self, node):
        try:
            ast.literal_eval(node)
        except ValueError:
            return False
        inner = [part for part in ast.walk(node) if part is not node]
        return not any(isinstance(part, (ast.List, ast.Dict, ast.Set)) for part in inner)

    def bound_by(self, node):
        if isinstance(node, ast.ImportFrom):
            return [alias.name for alias in node.names]
        if isinstance(node, ast.Assign):
            return [node.targets[0].id]
        return [node.name] if isinstance(node, (ast.FunctionDef, ast.ClassDef)) else []

    def test_imports(self):
        reached = {}
        for path, node in nodes(ast.Import, ast.ImportFrom):
            self.holds(isinstance(node, ast.ImportFrom) and node.level == 0, path, node, 'L2 L16')
            self.holds(all(alias.asname is None for alias in node.names), path, node, 'L2')
            if node.module in LIBRARY:
                self.holds({alias.name for alias in node.names} <= LIBRARY[node.module], path, node, 'L2')
                continue
            package, _, module = node.module.partition('.')
            self.holds(package == 'forkyields' and (PACKAGE / f'{module}.py').exists(), path, node, 'L2')
            reached.setdefault(path.stem, set()).add(module)
            defined = {name for part in TREES[PACKAGE / f'{module}.py'].body
                       if not isinstance(part, ast.ImportFrom) for name in self.bound_by(part)}
            self.holds({alias.name for alias in node.names} <= defined, path, node, 'L16')
        for _ in range(len(FILES)):
            reached = {name: far.union(*[reached.get(part, ()) for part in far]) for name, far in reached.items()}
        for name, far in reached.items():
            self.assertNotIn(name, far)

    def test_all_imports_are_used(self):
        for path, tree in TREES.items():
            used = {node.id for node in ast.walk(tree) if isinstance(node, ast.Name)}
            for node in tree.body:
                if isinstance(node, ast.ImportFrom):
                    self.holds({alias.name for alias in node.names} <= used, path, node, 'unused import')

    def test_names(self):
        modules = {path.stem for path in FILES}
        for path in FILES:
            bound = bound_names(path)
            fixed = {alias.name for _, node in nodes(ast.ImportFrom) if _ == path for alias in node.names}
            fixed |= {node.name for node in TREES[path].body if isinstance(node, ast.ClassDef)}
            for name in bound - DUNDERS:
                told = (re.fullmatch('_|_?[A-Za-z][A-Za-z0-9_]*', name) and name not in BUILTIN_NAMES
                        and name not in BARRED and not keyword.issoftkeyword(name)
                        and not re.match('_wall|_pe_|_dcw_|_enum_|_cm_|_twin_re_|_lay_|_law_|_stub_|_sre', name))
                self.holds(told or name in ('_',), path, name, 'L8 L12 L15 L17')
            inner = {node.arg for node in ast.walk(TREES[path]) if isinstance(node, ast.arg)}
            inner |= {node.id for node in ast.walk(TREES[path])
                      if isinstance(node, ast.Name) and not isinstance(node.ctx, ast.Load)}
            self.assertFalse(inner & fixed, path)
        self.assertFalse(modules & {'math', 'heapq', 'itertools'})

    def test_no_variable_hides_a_function(self):
        for path, tree in TREES.items():
            own = {node.name for node in tree.body if isinstance(node, ast.FunctionDef)}
            inner = {node.arg for node in ast.walk(tree) if isinstance(node, ast.arg)}
            inner |= {node.id for node in ast.walk(tree)
                      if isinstance(node, ast.Name) and not isinstance(node.ctx, ast.Load)}
            self.assertFalse(own & inner, path)

    def test_words(self):
        for path, tree in TREES.items():
            text = path.read_text()
            self.assertNotIn('#!', text)
            self.assertFalse(WORDS.search(text), (path, WORDS.search(text)))
        docstrings = {id(node.body[0].value) for _, node in nodes(ast.Module, ast.ClassDef, ast.FunctionDef)
                      if node.body and isinstance(node.body[0], ast.Expr)}
        for path, node in nodes(ast.Constant):
            if isinstance(node.value, str):
                self.holds('%' not in node.value, path, node, 'L27')
                self.holds(not re.fullmatch('__.*__', node.value) and not node.value.endswith(('._', '.__')),
                           path, node, 'L27')
                self.holds(id(node) in docstrings or not re.search(r'[\t\r\x00]', node.value), path, node, 'L27')
            self.holds(isinstance(node.value, (str, int, type(None))), path, node, 'L7')

    def test_statements(self):
        for path, node in nodes(ast.stmt):
            self.holds(isinstance(node, STATEMENTS), path, node, 'L6')
        for path, node in nodes(ast.GeneratorExp, ast.Lambda, ast.NamedExpr, ast.Await, ast.Match, ast.Global,
                                ast.Nonlocal, ast.AugAssign, ast.AnnAssign, ast.Delete, ast.SetComp, ast.Set):
            self.holds(False, path, node, 'not used here')
        for path, node in nodes(ast.Try):
            self.holds(not node.finalbody, path, node, 'not used here')
        for path, node in nodes(ast.FunctionDef):
            names = marks_of(node)
            marks = {'property', 'classmethod', 'staticmethod', f'{node.name}.setter'}
            self.holds(len(names) < 2 and set(names) <= marks, path, node, 'L4')
            self.holds(node.returns is None, path, node, 'L21')
        for path, node in nodes(ast.Yield, ast.YieldFrom):
            self.holds(path.stem in ('allruns',), path, node, 'L23')

    def test_expressions(self):
        for path, node in nodes(ast.Compare):
            for sign, side in zip(node.ops, node.comparators):
                if isinstance(sign, (ast.Is, ast.IsNot)):
                    self.holds(isinstance(side, ast.Constant) and side.value in (None, True, False), path, node, 'L20')
        for path, node in nodes(ast.BinOp):
            self.holds(not isinstance(node.op, (ast.Div, ast.MatMult, ast.Pow)), path, node, 'L7 L27')
        for path, node in nodes(ast.comprehension):
            self.holds(not node.is_async, path, node, 'L6')

    def test_names_in_comprehensions(self):
        kinds = (ast.ListComp, ast.DictComp)
        for path, node in nodes(ast.FunctionDef):
            outer = [part for part in ast.walk(node) if isinstance(part, kinds)]
            within = {id(part) for made in outer for part in ast.walk(made) if part is not made}
            assigned = {part.arg for part in ast.walk(node.args) if isinstance(part, ast.arg)} | {
                part.id for part in ast.walk(node)
                if isinstance(part, ast.Name) and isinstance(part.ctx, ast.Store) and id(part) not in within}
            for made in outer:
                for part in ast.walk(made):
                    if isinstance(part, kinds) and part is not made:
                        clash = self.loop_names(part) & (assigned | self.loop_names(made))
                        self.holds(not clash, path, part, 'L7 Names in comprehensions')

    def loop_names(self, made):
        return {part.id for loop in made.generators for part in ast.walk(loop.target) if isinstance(part, ast.Name)}

    def test_calls(self):
        functions = {node.name for path, tree in TREES.items() for node in tree.body
                     if isinstance(node, ast.FunctionDef)}
        for path, node in nodes(ast.Call):
            if isinstance(node.func, ast.Name):
                name = node.func.id
                self.holds(name in functions or name in classes() or name in BUILTINS or name == 'cls'
                           or name in LIBRARY['math'], path, node, 'L8')
            else:
                self.holds(isinstance(node.func, ast.Attribute), path, node, 'L7')
                self.holds(node.func.attr in METHODS | own_methods(), path, node, 'L25')
        for path, node in nodes(ast.Name):
            if node.id in BUILTIN_NAMES:
                self.holds(node.id in BUILTINS, path, node, 'L8')

    def test_functions_are_called_only(self):
        called = {id(node.func) for _, node in nodes(ast.Call)}
        functions = {node.name for path, tree in TREES.items() for node in tree.body
                     if isinstance(node, ast.FunctionDef)}
        for path, node in nodes(ast.Name):
            if isinstance(node.ctx, ast.Load) and id(node) not in called:
                self.holds(node.id not in functions, path, node, 'no function as a value')

    def test_sorted_and_the_like(self):
        for path, node in nodes(ast.Call):
            if is_call_of(node, 'sorted'):
                self.holds(not node.keywords and is_call_of(node.args[0], 'set'), path, node, 'L5 Operators')
            if is_call_of(node, 'min', 'max', 'reversed', 'map', 'iter'):
                plain = is_call_of(node, 'iter') and path.stem in ('systemclasses', 'runclasses')
                self.holds(plain, path, node, 'not used here')
            if is_call_of(node, 'any', 'all', 'sum'):
                self.holds(isinstance(node.args[0], (ast.ListComp, ast.Subscript)), path, node, 'L7')
        placed = {id(node.args[0]) for _, node in nodes(ast.Call) if is_call_of(node, 'sorted', 'len') and node.args}
        for path, node in nodes(ast.Call):
            if is_call_of(node, 'set'):
                self.holds(id(node) in placed and len(node.args) == 1, path, node, 'L24')

    def test_iterated_at_once(self):
        heads = {id(node.iter) for _, node in nodes(ast.For, ast.comprehension)}
        heads |= {id(node.args[0]) for _, node in nodes(ast.Call)
                  if is_call_of(node, 'list', 'tuple', 'dict') and node.args}
        for path, node in nodes(ast.Call):
            view = isinstance(node.func, ast.Attribute) and node.func.attr in ('items', 'keys', 'values')
            if view or is_call_of(node, 'zip', 'enumerate', 'range', 'reversed'):
                self.holds(id(node) in heads, path, node, 'L23')

    def test_loops_leave_alone_what_they_go_over(self):
        for path, node in nodes(ast.For):
            gone = {part.id for part in ast.walk(node.iter) if isinstance(part, ast.Name)}
            for part in [part for row in node.body for part in ast.walk(row)]:
                if isinstance(part, ast.Call) and isinstance(part.func, ast.Attribute):
                    changed = part.func.attr in ('append', 'extend', 'pop', 'insert', 'remove', 'clear', 'update')
                    base = part.func.value
                    self.holds(not changed or not isinstance(base, ast.Name) or base.id not in gone, path, part, 'L23')

    def test_errors(self):
        own = {name for name, node in classes().items() if node.name in vars(__import__('forkyields.errors').errors)}
        for path, node in nodes(ast.ExceptHandler):
            self.holds(isinstance(node.type, ast.Name) and node.type.id in own, path, node, 'L19')
        for path, node in nodes(ast.Raise):
            self.holds(isinstance(node.exc, ast.Call) and node.exc.func.id in own | {'TypeError'}, path, node, 'L19')

    def test_what_operators_run_changes_own_lists_alone(self):
        for path, node in run_by_operators():
            made = set()
            for part in ast.walk(node):
                if isinstance(part, ast.Assign) and isinstance(part.targets[0], ast.Name):
                    literal = isinstance(part.value, (ast.List, ast.Dict, ast.ListComp))
                    if literal or is_call_of(part.value, 'list', 'dict', 'sorted'):
                        made.add(part.targets[0].id)
            for part in ast.walk(node):
                base = None
                if isinstance(part, ast.Call) and isinstance(part.func, ast.Attribute):
                    if part.func.attr in ('append', 'extend', 'pop', 'insert', 'remove', 'clear', 'update'):
                        base = part.func.value
                if isinstance(part, ast.Subscript) and isinstance(part.ctx, ast.Store):
                    base = part.value
                while isinstance(base, ast.Subscript):
                    base = base.value
                self.holds(base is None or isinstance(base, ast.Name) and base.id in made, path, part, 'L5 Operators')
                if isinstance(part, ast.Attribute) and isinstance(part.ctx, ast.Store):
                    self.holds(node.name == '__init__' and part.value.id == 'self', path, part, 'L5 Operators')

    def test_classes(self):
        for name, node in classes().items():
            made = [part for part in node.body if isinstance(part, ast.FunctionDef)]
            methods = [part.name for part in made if marks_of(part) != [f'{part.name}.setter']]
            self.assertEqual(len(methods), len(set(methods)), name)
            self.assertTrue({part for part in methods if part.startswith('__')} <= DUNDERS, name)
            if '__getitem__' in methods:
                self.assertIn('__iter__', methods, name)
            for part in node.body:
                if isinstance(part, ast.FunctionDef) and part.name in ('__str__', '__repr__'):
                    self.assertNotIn('Add', [type(inner).__name__ for inner in ast.walk(part)])
                    self.assertIsInstance(part.body[-1], ast.Return)

    def test_attributes(self):
        stored = {node.attr for _, node in nodes(ast.Attribute) if isinstance(node.ctx, ast.Store)}
        values = {target.id for made in classes().values() for part in made.body if isinstance(part, ast.Assign)
                  for target in part.targets}
        self.assertFalse(values & (stored | own_methods()))
        properties = {part.name for made in classes().values() for part in made.body
                      if isinstance(part, ast.FunctionDef) and part.decorator_list}
        for path, node in nodes(ast.Attribute):
            if isinstance(node.ctx, ast.Load):
                self.holds(node.attr in stored | values | properties | METHODS | own_methods() | {'setter'}, path, node, 'L18')
        self.assertFalse(stored & own_methods())
        self.assertFalse(stored & METHODS)

    def test_no_free_names(self):
        """Each name that is read is bound: a table of symbols tells what an untested branch would only fail at."""
        for path in FILES:
            table = symtable.symtable(path.read_text(), str(path), 'exec')
            known = set(table.get_identifiers()) | BUILTIN_NAMES
            pending = list(table.get_children())
            while pending:
                part = pending.pop()
                pending.extend(part.get_children())
                for symbol in part.get_symbols():
                    if symbol.is_global():
                        self.assertIn(symbol.get_name(), known, path)


if __name__ == '__main__':
    unittest.main()

"""The files of the package stay within the subset of Python in which the program is written.

What is tested here is simpler than the rules, and in places narrower: a file that passes uses no sets,
no generators, no operators and no handlers for Python's own errors.
"""

import ast
import builtins
import pathlib
import re
import unittest

ROOT = pathlib.Path(__file__).resolve().parent.parent
PACKAGE = ROOT / "fewrefresh"
FILES = sorted(PACKAGE.rglob("*.py"))

BUILTINS = set("""len range enumerate zip min max sum abs sorted reversed int str bool bytes list tuple dict isinstance
ord repr any all divmod super ValueError KeyError ZeroDivisionError""".split())
METHODS = set("""append clear copy count endswith extend find get index insert isalnum isalpha isdigit islower isspace
isupper items join keys ljust lower lstrip partition pop remove replace reverse rfind rjust rpartition rsplit rstrip
setdefault split splitlines startswith strip update upper values zfill bit_length""".split())
DUNDERS = {"__init__", "__eq__"}
NOWHERE = set("register mro elements open input law version_info with_traceback add_note".split())
NOT_NAMES = set("""attrgetter breakpoint builtins compile copyright credits delattr dir eval exec exit gc getattr globals
hasattr help id importlib license locals methodcaller os quit setattr type vars sys""".split())
WORDS = re.compile(r"\b(type|typing|typing_extensions|enum|Enum|IntEnum|StrEnum|Flag|IntFlag|Generic|Protocol|ABC"
                   r"|ABCMeta|namedtuple|NamedTuple|TypedDict|TYPE_CHECKING|abstractmethod)\b"
                   r"|dataclass|overload|contextmanager")
STATEMENTS = (ast.FunctionDef, ast.ClassDef, ast.Assign, ast.AugAssign, ast.If, ast.While, ast.For, ast.Return,
              ast.Break, ast.Continue, ast.Pass, ast.Raise, ast.Assert, ast.Delete, ast.Try, ast.Expr, ast.ImportFrom)
BARRED = (ast.Set, ast.SetComp, ast.GeneratorExp, ast.Yield, ast.YieldFrom, ast.Await, ast.Div, ast.Import, ast.Global,
          ast.Lambda)


def parsed():
    """Return pairs of a path and its tree."""
    return [(path, ast.parse(path.read_text(encoding="utf-8"))) for path in FILES]


def nodes():
    """Return pairs of a place and a node for all nodes of all files."""
    return [(f"{path.name}:{getattr(node, 'lineno', 0)}", node) for path, tree in parsed() for node in ast.walk(tree)]


def bound_names(node):
    """Return the names that a node binds."""
    if isinstance(node, (ast.FunctionDef, ast.ClassDef)):
        return [node.name]
    if isinstance(node, ast.arg):
        return [node.arg]
    if isinstance(node, ast.Name) and not isinstance(node.ctx, ast.Load):
        return [node.id]
    if isinstance(node, ast.ExceptHandler) and node.name:
        return [node.name]
    return [alias.asname or alias.name for alias in node.names] if isinstance(node, ast.ImportFrom) else []


def module_name(path):
    """Return the full name of the module in a file."""
    return ".".join(path.relative_to(ROOT).with_suffix("").parts)


class Files(unittest.TestCase):
    def test_only_sources(self):
        for path in PACKAGE.rglob("*"):
            if path.name == "__pycache__" or path.suffix == ".pyc":
                continue
            self.assertRegex(path.name, r"^[a-z][a-z0-9_]*\.py$|^__init__\.py$")
        self.assertTrue((PACKAGE / "__init__.py").is_file())
        self.assertLessEqual(len(FILES), 100)

    def test_characters(self):
        for path in FILES:
            for number, line in enumerate(path.read_bytes().decode("utf-8").split("\n"), 1):
                place = f"{path.name}:{number}"
                self.assertLessEqual(len(line), 120, place)
                self.assertTrue(all(" " <= letter <= "~" for letter in line), place)
                self.assertIsNone(WORDS.search(line), place)

    def test_sizes(self):
        for path, tree in parsed():
            self.assertLessEqual(len(path.read_text().split("\n")), 399, path.name)
            for node in ast.walk(tree):
                if isinstance(node, ast.FunctionDef):
                    self.assertLessEqual(node.end_lineno - node.lineno + 1, 40, node.name)

    def test_documented(self):
        for path, tree in parsed():
            self.assertTrue(ast.get_docstring(tree), path.name)


class Modules(unittest.TestCase):
    def test_module_level(self):
        for path, tree in parsed():
            functions = []
            for node in tree.body[1:]:
                place = f"{path.name}:{node.lineno}"
                self.assertIsInstance(node, (ast.ImportFrom, ast.FunctionDef, ast.ClassDef, ast.Assign), place)
                if isinstance(node, ast.FunctionDef):
                    functions.append(node.name)
                if isinstance(node, ast.Assign):
                    self.assertEqual([target.__class__ for target in node.targets], [ast.Name], place)
                    self.check_plain(node.value, functions, place)

    def check_plain(self, value, functions, place):
        """Assert that a value is plain, or a dict of functions that are defined above it."""
        if isinstance(value, ast.Dict) and all(isinstance(item, ast.Name) for item in value.values):
            for item in value.values:
                self.assertIn(item.id, functions, place)
            value = ast.Dict(value.keys, [ast.Constant(None)] * len(value.keys))
        ast.literal_eval(value)

    def test_bound_once(self):
        for path, tree in parsed():
            names = [name for node in tree.body for name in bound_names(node)]
            names += [target.id for node in tree.body if isinstance(node, ast.Assign) for target in node.targets]
            self.assertEqual(len(names), len(set(names)), path.name)

    def test_imports(self):
        homes = {module_name(path): {name for node in tree.body if not isinstance(node, ast.ImportFrom)
                                     for name in bound_names(node)}
                 | {target.id for node in tree.body if isinstance(node, ast.Assign) for target in node.targets}
                 for path, tree in parsed()}
        for path, tree in parsed():
            for node in ast.walk(tree):
                if isinstance(node, ast.ImportFrom):
                    self.assertIn(node, tree.body)
                    self.assertEqual(node.level, 0)
                    self.assertIn(node.module, homes)
                    for alias in node.names:
                        self.assertIn(alias.name, homes[node.module], f"{path.name}:{node.lineno}")

    def test_no_import_cycle(self):
        needs = {module_name(path): {node.module for node in tree.body if isinstance(node, ast.ImportFrom)}
                 for path, tree in parsed()}
        while needs:
            free = [name for name in needs if not needs[name] & set(needs)]
            self.assertTrue(free, f"a cycle among {sorted(needs)}")
            for name in free:
                del needs[name]

    def test_imports_are_used(self):
        for path, tree in parsed():
            used = {node.id for node in ast.walk(tree) if isinstance(node, ast.Name)}
            for node in tree.body:
                if isinstance(node, ast.ImportFrom):
                    for name in bound_names(node):
                        self.assertIn(name, used, path.name)


class Names(unittest.TestCase):
    def test_bound_names(self):
        for place, node in nodes():
            for name in bound_names(node):
                if name not in DUNDERS:
                    self.assertRegex(name, r"^[A-Za-z][A-Za-z0-9_]*$", place)
                    self.assertFalse(hasattr(builtins, name), f"{place}: {name}")
                    self.assertNotIn(name, NOWHERE | NOT_NAMES, place)

    def test_locals_hide_no_class_and_no_import(self):
        for path, tree in parsed():
            taken = {name for node in tree.body if isinstance(node, (ast.ImportFrom, ast.ClassDef))
                     for name in bound_names(node)}
            for node in ast.walk(tree):
                if isinstance(node, (ast.Name, ast.arg)):
                    for name in bound_names(node):
                        self.assertNotIn(name, taken, f"{path.name}:{node.lineno}")

    def test_builtins(self):
        for place, node in nodes():
            if isinstance(node, ast.Name) and isinstance(node.ctx, ast.Load) and hasattr(builtins, node.id):
                self.assertIn(node.id, BUILTINS, place)

    def test_attributes(self):
        own = {node.name for place, node in nodes() if isinstance(node, ast.FunctionDef)} - DUNDERS
        for place, node in nodes():
            if isinstance(node, ast.Attribute):
                self.assertNotIn(node.attr, NOWHERE | {"format", "format_map", "args"}, place)
            if isinstance(node, ast.Call) and isinstance(node.func, ast.Attribute):
                of_super = ast.unparse(node.func.value) == "super()"
                self.assertTrue(node.func.attr in METHODS | own or of_super, f"{place}: {node.func.attr}")


class Classes(unittest.TestCase):
    def test_methods(self):
        for place, node in nodes():
            if isinstance(node, ast.ClassDef):
                methods = [row.name for row in node.body if isinstance(row, ast.FunctionDef)]
                self.assertEqual(len(methods), len(set(methods)), place)
                self.assertFalse([name for name in methods if name.startswith("_") and name not in DUNDERS], place)
                self.assertEqual(node.decorator_list, [], place)

    def test_no_name_is_both_method_and_attribute(self):
        methods, attributes = set(), set()
        for place, node in nodes():
            if isinstance(node, ast.ClassDef):
                methods |= {row.name for row in node.body if isinstance(row, ast.FunctionDef)}
            if isinstance(node, ast.Attribute) and isinstance(node.ctx, ast.Store):
                attributes.add(node.attr)
        self.assertEqual(methods & attributes, set())
        for name in (methods | attributes) - DUNDERS:
            for kind in (str, int, list, dict, set, bytes):
                self.assertFalse(hasattr(kind, name), name)


class Code(unittest.TestCase):
    def test_statements(self):
        for place, node in nodes():
            if isinstance(node, ast.stmt):
                self.assertIsInstance(node, STATEMENTS, place)
            self.assertNotIsInstance(node, BARRED, place)
            if isinstance(node, ast.FunctionDef):
                self.assertEqual([node.decorator_list, node.args.posonlyargs], [[], []], place)

    def test_constants(self):
        for place, node in nodes():
            if isinstance(node, ast.Constant):
                self.assertNotIsInstance(node.value, (float, complex), place)
                if isinstance(node.value, str):
                    self.assertNotIn("%", node.value, place)

    def test_is(self):
        for place, node in nodes():
            if isinstance(node, ast.Compare):
                for operator, right in zip(node.ops, node.comparators):
                    if isinstance(operator, (ast.Is, ast.IsNot)):
                        self.assertIsInstance(right, ast.Constant, place)
                        self.assertIn(repr(right.value), ("None", "True", "False"), place)

    def test_handlers(self):
        for place, node in nodes():
            if isinstance(node, ast.ExceptHandler):
                self.assertIsNotNone(node.type, place)
                for kind in ast.walk(node.type):
                    if isinstance(kind, ast.Name):
                        self.assertTrue(kind.id in ("KeyError", "ZeroDivisionError") or not hasattr(builtins, kind.id))

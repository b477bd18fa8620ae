"""The part of Python that the package keeps to, as far as it can be seen row by row."""

import ast
import builtins
import re
import unittest
from pathlib import Path

PACKAGE = Path(__file__).resolve().parent.parent / "partedweb"
OWN_NAMES = set(
    "len range enumerate zip min max sum abs sorted reversed int str bool bytes list tuple dict set frozenset isinstance"
    " ord repr any all divmod Exception ValueError TypeError KeyError IndexError LookupError ZeroDivisionError"
    " ArithmeticError OverflowError RuntimeError NotImplementedError AttributeError StopIteration".split()
)
METHODS = set(
    "append clear copy count endswith extend find get index insert isalnum isalpha isdigit islower isspace isupper items"
    " join keys ljust lower lstrip partition pop remove replace reverse rfind rjust rpartition rsplit rstrip setdefault"
    " split splitlines startswith strip update upper values zfill bit_length add discard sort".split()
)
WORDS = re.compile(
    r"\b(type|typing|typing_extensions|enum|Enum|IntEnum|StrEnum|Flag|IntFlag|Generic|Protocol|ABC|ABCMeta|namedtuple"
    r"|NamedTuple|TypedDict|TYPE_CHECKING|abstractmethod)\b|dataclass|overload|contextmanager"
)
LEFT_OUT = (
    ast.With, ast.Match, ast.Global, ast.Nonlocal, ast.Yield, ast.YieldFrom, ast.Await, ast.AsyncFunctionDef, ast.Import,
    ast.GeneratorExp, ast.NamedExpr, ast.Div,
)
DUNDERS = {"__init__", "__eq__", "__repr__", "__str__", "__len__"}


WALKED = {"zip", "enumerate", "reversed", "range", "items", "keys", "values"}
WALKERS = {"list", "tuple", "dict", "sorted", "sum", "any", "all", "enumerate", "zip", "min", "max", "join"}


def called(node):
    """The name of what a call calls."""
    return node.func.attr if isinstance(node.func, ast.Attribute) else getattr(node.func, "id", None)


def files():
    return sorted(PACKAGE.rglob("*.py"))


def bound_names(tree):
    for node in ast.walk(tree):
        if isinstance(node, ast.Name) and not isinstance(node.ctx, ast.Load):
            yield node.id
        elif isinstance(node, ast.arg):
            yield node.arg
        elif isinstance(node, (ast.FunctionDef, ast.ClassDef)):
            yield node.name


class Language(unittest.TestCase):
    def each_node(self, *kinds):
        for path in files():
            for node in ast.walk(ast.parse(path.read_text())):
                if isinstance(node, kinds):
                    yield f"{path.name}:{getattr(node, 'lineno', '?')}", node

    def test_files(self):
        self.assertTrue(files())
        for path in PACKAGE.iterdir():
            if path.name != "__pycache__":
                self.assertRegex(path.name, r"^[a-z0-9_]+\.py$")

    def test_rows_and_signs(self):
        for path in files():
            text = path.read_bytes().decode("ascii")
            self.assertRegex(text, r"\A[ -~\n]*\Z")
            self.assertLessEqual(len(text.split("\n")), 401, path.name)
            self.assertLessEqual(max(len(row) for row in text.split("\n")), 120, path.name)
            self.assertIsNone(WORDS.search(text), path.name)

    def test_sizes_of_functions(self):
        for where, node in self.each_node(ast.FunctionDef):
            self.assertLessEqual(node.end_lineno - node.lineno + 1, 40, where)

    def test_left_out(self):
        for where, node in self.each_node(*LEFT_OUT):
            self.fail(where)
        for where, node in self.each_node(ast.Constant):
            self.assertNotIsInstance(node.value, (float, complex), where)
            if isinstance(node.value, str):
                self.assertNotIn("%", node.value, where)
        for where, node in self.each_node(ast.For, ast.While):
            self.assertEqual(node.orelse, [], where)

    def test_defs_and_classes(self):
        for where, node in self.each_node(ast.FunctionDef, ast.ClassDef):
            self.assertEqual(node.decorator_list, [], where)
        for where, node in self.each_node(ast.arguments):
            self.assertEqual((node.vararg, node.kwarg, node.posonlyargs), (None, None, []), where)

    def test_imports(self):
        drawn = {}
        for path in files():
            drawn[path.stem] = []
            for node in ast.walk(ast.parse(path.read_text())):
                if isinstance(node, ast.ImportFrom):
                    self.assertRegex(node.module, r"^partedweb\.[a-z]+$")
                    self.assertTrue((PACKAGE / f"{node.module[10:]}.py").exists())
                    drawn[path.stem].append(node.module[10:])
        self.assertEqual(drawn["__init__"], [])
        while drawn:
            free = [name for name in drawn if not any(other in drawn for other in drawn[name])]
            self.assertTrue(free, f"these draw from one another: {sorted(drawn)}")
            for name in free:
                del drawn[name]

    def test_names(self):
        for path in files():
            tree = ast.parse(path.read_text())
            imported = [name.name for node in ast.walk(tree) if isinstance(node, ast.ImportFrom) for name in node.names]
            for name in bound_names(tree):
                if name not in DUNDERS:
                    self.assertRegex(name, r"^[A-Za-z][A-Za-z0-9_]*$", path.name)
                    self.assertFalse(hasattr(builtins, name), f"{path.name}: {name}")
                self.assertNotIn(name, imported, path.name)
            known = OWN_NAMES | set(imported) | set(bound_names(tree))
            for node in ast.walk(tree):
                if isinstance(node, ast.Name):
                    self.assertIn(node.id, known, f"{path.name}:{node.lineno}")

    def test_methods(self):
        given = {node.attr for _, node in self.each_node(ast.Attribute) if isinstance(node.ctx, ast.Store)}
        own = {node.name for _, node in self.each_node(ast.FunctionDef)}
        for where, node in self.each_node(ast.Attribute):
            self.assertIn(node.attr, METHODS | given | own, where)

    def test_own_methods_and_values(self):
        given = {node.attr for _, node in self.each_node(ast.Attribute) if isinstance(node.ctx, ast.Store)}
        methods = set()
        for _, node in self.each_node(ast.ClassDef):
            methods |= {part.name for part in node.body if isinstance(part, ast.FunctionDef)}
        self.assertEqual(given & methods, set())
        for name in (given | methods) - DUNDERS:
            for kind in (str, int, list, dict, set, bytes, tuple):
                self.assertFalse(hasattr(kind, name), name)

    def test_walked_at_once(self):
        for path in files():
            tree = ast.parse(path.read_text())
            allowed = set()
            for node in ast.walk(tree):
                if isinstance(node, (ast.For, ast.comprehension)):
                    allowed.add(node.iter)
                elif isinstance(node, ast.Call) and called(node) in WALKERS and node.args:
                    allowed.add(node.args[0])
                elif isinstance(node, ast.Compare) and isinstance(node.ops[0], (ast.In, ast.NotIn)):
                    allowed.add(node.comparators[0])
            for node in ast.walk(tree):
                if isinstance(node, ast.Call) and called(node) in WALKED:
                    self.assertIn(node, allowed, f"{path.name}:{node.lineno}")

    def test_sets(self):
        for where, node in self.each_node(ast.For, ast.comprehension):
            self.assertNotIsInstance(node.iter, (ast.Set, ast.SetComp), where)
        for path in files():
            tree = ast.parse(path.read_text())
            allowed = set()
            for node in ast.walk(tree):
                if isinstance(node, ast.Call) and called(node) in ("len", "sorted") and not node.keywords:
                    allowed.add(node.args[0])
                elif isinstance(node, ast.Compare):
                    allowed.update(node.comparators)
            for node in ast.walk(tree):
                if isinstance(node, (ast.Set, ast.SetComp)) or isinstance(node, ast.Call) and called(node) == "set":
                    self.assertIn(node, allowed, f"{path.name}:{node.lineno}")


if __name__ == "__main__":
    unittest.main()

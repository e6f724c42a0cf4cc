"""Some rules of the language of the package that can be read off its code."""

import ast
import builtins
import unittest
from pathlib import Path

PACKAGE = Path(__file__).resolve().parent.parent / "slitstairs"
LIBRARY = {
    "heapq": {"heappush", "heappop", "heapify", "heapreplace", "heappushpop"},
    "math": {"gcd", "lcm", "isqrt", "comb", "perm", "factorial"},
    "itertools": {"chain", "accumulate", "pairwise", "islice", "zip_longest"},
    "collections": {"defaultdict"},
}
BUILTINS = set("""len range enumerate zip min max sum abs sorted reversed int str bool list tuple dict set
    isinstance ord repr any all divmod pow getattr hasattr setattr iter next map super property staticmethod
    classmethod Exception ValueError TypeError KeyError IndexError LookupError ZeroDivisionError ArithmeticError
    OverflowError RuntimeError NotImplementedError AttributeError StopIteration NotImplemented""".split())
OPERATORS = set("""lt le gt ge ne add sub mul floordiv mod pow and or xor lshift rshift neg pos invert abs bool
    contains getitem setitem""".split())
DUNDERS = {f"__{name}__" for name in OPERATORS} | set(
    "__init__ __eq__ __repr__ __str__ __len__ __enter__ __exit__ __call__ __iter__".split())
LISTS_ONLY = {"any", "all", "min", "max", "sum", "sorted"}


def bound_names(node):
    if isinstance(node, (ast.FunctionDef, ast.ClassDef)):
        return [node.name]
    if isinstance(node, ast.arg):
        return [node.arg]
    if isinstance(node, ast.Name) and not isinstance(node.ctx, ast.Load):
        return [node.id]
    if isinstance(node, ast.ExceptHandler) and node.name:
        return [node.name]
    return []


class FormTest(unittest.TestCase):
    def setUp(self):
        self.files = sorted(PACKAGE.glob("*.py"))
        self.trees = [(path, ast.parse(path.read_text())) for path in self.files]

    def nodes(self):
        for path, tree in self.trees:
            for node in ast.walk(tree):
                yield f"{path.name}:{getattr(node, 'lineno', 0)}", node

    def test_the_folder_contains_python_files_alone(self):
        things = [path for path in PACKAGE.iterdir() if path.name != "__pycache__"]
        self.assertEqual(sorted(things), self.files)
        self.assertIn(PACKAGE / "__init__.py", self.files)

    def test_characters_and_sizes(self):
        for path in self.files:
            text = path.read_bytes().decode("ascii")
            self.assertEqual([c for c in text if c != "\n" and not " " <= c <= "~"], [], path.name)
            self.assertLessEqual(len(text.splitlines()), 399, path.name)
            for number, line in enumerate(text.splitlines(), 1):
                self.assertLessEqual(len(line), 120, f"{path.name}:{number}")

    def test_functions_have_at_most_forty_lines(self):
        for place, node in self.nodes():
            if isinstance(node, ast.FunctionDef):
                self.assertLessEqual(node.end_lineno - node.lineno + 1, 40, place)

    def test_statements_and_expressions(self):
        barred = (ast.Import, ast.Global, ast.AsyncFunctionDef, ast.Await, ast.Div, ast.MatMult)
        for place, node in self.nodes():
            self.assertNotIsInstance(node, barred, place)
            if isinstance(node, ast.Constant):
                self.assertNotIsInstance(node.value, (float, complex), place)
                self.assertFalse(isinstance(node.value, str) and "%" in node.value, place)
            if isinstance(node, ast.BinOp) and isinstance(node.op, ast.Pow):
                self.assertIsInstance(node.right, ast.Constant, place)
            if isinstance(node, ast.Call) and isinstance(node.func, ast.Name) and node.func.id in LISTS_ONLY:
                self.assertFalse(any(isinstance(arg, ast.GeneratorExp) for arg in node.args), place)

    def test_imports(self):
        defined = {path.stem: {node.name for node in tree.body if isinstance(node, (ast.FunctionDef, ast.ClassDef))}
                   | {name for node in tree.body if isinstance(node, ast.Assign) for name in bound_names(node.targets[0])}
                   for path, tree in self.trees}
        for path, tree in self.trees:
            for node in ast.walk(tree):
                if not isinstance(node, ast.ImportFrom):
                    continue
                self.assertIn(node, tree.body, path.name)
                names = {alias.name for alias in node.names}
                self.assertEqual([alias.asname for alias in node.names if alias.asname], [], path.name)
                if node.module.startswith("slitstairs."):
                    self.assertLessEqual(names, defined[node.module.removeprefix("slitstairs.")], path.name)
                else:
                    self.assertLessEqual(names, LIBRARY[node.module], path.name)

    def test_names(self):
        for place, node in self.nodes():
            for name in bound_names(node):
                method = isinstance(node, ast.FunctionDef) and name in DUNDERS
                self.assertTrue(method or not name.startswith("__"), f"{place} {name}")
                self.assertTrue(method or name not in vars(builtins), f"{place} {name}")
            if isinstance(node, ast.Name) and node.id in vars(builtins):
                self.assertIn(node.id, BUILTINS, place)

    def test_decorators(self):
        for place, node in self.nodes():
            for decorator in getattr(node, "decorator_list", []):
                told = ast.unparse(decorator)
                self.assertTrue(told in ("property", "staticmethod", "classmethod") or told.endswith(".setter"), place)

"""Some rules of the language of the package that can be read off its code."""

import ast
import builtins
import unittest
from pathlib import Path

PACKAGE = Path(__file__).resolve().parent.parent / "slitstairs"
LIBRARY = {
    "heapq": {"heappush", "heappop", "heapify", "heapreplace", "heappushpop"},
    "math": {"gcd", "lcm", "isqrt", "comb", "perm", "factorial"},
    "itertools": {"chain", "accumulate", "pairwise", "islice", "zip_longest"},
    "collections": {"defaultdict"},
}
BUILTINS = set("""len range enumerate zip min max sum abs sorted reversed int str bool list tuple dict set
    isinstance ord repr any all divmod pow getattr hasattr setattr iter next map super property staticmethod
    classmethod Exception ValueError TypeError KeyError IndexError LookupError ZeroDivisionError ArithmeticError
    OverflowError RuntimeError NotImplementedError AttributeError StopIteration NotImplemented""".split())
OPERATORS = set("""lt le gt ge ne add sub mul floordiv mod pow and or xor lshift rshift neg pos invert abs bool
    contains getitem setitem""".split())
DUNDERS = {f"__{name}__" for name in OPERATORS} | set(
    "__init__ __eq__ __repr__ __str__ __len__ __enter__ __exit__ __call__ __iter__".split())
ASKED = DUNDERS - {"__init__", "__call__", "__enter__", "__exit__"}
LISTS_ONLY = {"any", "all", "min", "max", "sum", "sorted"}


def bound_names(node):
    if isinstance(node, (ast.FunctionDef, ast.ClassDef)):
        return [node.name]
    if isinstance(node, ast.arg):
        return [node.arg]
    if isinstance(node, ast.Name) and not isinstance(node.ctx, ast.Load):
        return [node.id]
    if isinstance(node, ast.ExceptHandler) and node.name:
        return [node.name]
    return []


def generator_names(trees):
    return {node.name for _, tree in trees for node in ast.walk(tree) if isinstance(node, ast.FunctionDef)
            and any(isinstance(part, (ast.Yield, ast.YieldFrom)) for part in ast.walk(node))}


class FormTest(unittest.TestCase):
    def setUp(self):
        self.files = sorted(PACKAGE.glob("*.py"))
        self.trees = [(path, ast.parse(path.read_text())) for path in self.files]

    def nodes(self):
        for path, tree in self.trees:
            for node in ast.walk(tree):
                yield f"{path.name}:{getattr(node, 'lineno', 0)}", node

    def test_the_folder_contains_python_files_alone(self):
        things = [path for path in PACKAGE.iterdir() if path.name != "__pycache__"]
        self.assertEqual(sorted(things), self.files)
        self.assertIn(PACKAGE / "__init__.py", self.files)

    def test_characters_and_sizes(self):
        for path in self.files:
            text = path.read_bytes().decode("ascii")
            self.assertEqual([c for c in text if c != "\n" and not " " <= c <= "~"], [], path.name)
            self.assertLessEqual(len(text.splitlines()), 399, path.name)
            for number, line in enumerate(text.splitlines(), 1):
                self.assertLessEqual(len(line), 120, f"{path.name}:{number}")

    def test_functions_have_at_most_forty_lines(self):
        for place, node in self.nodes():
            if isinstance(node, ast.FunctionDef):
                self.assertLessEqual(node.end_lineno - node.lineno + 1, 40, place)

    def test_statements_and_expressions(self):
        barred = (ast.Import, ast.Global, ast.AsyncFunctionDef, ast.Await, ast.Div, ast.MatMult)
        for place, node in self.nodes():
            self.assertNotIsInstance(node, barred, place)
            if isinstance(node, ast.Constant):
                self.assertNotIsInstance(node.value, (float, complex), place)
                self.assertFalse(isinstance(node.value, str) and "%" in node.value, place)
            if isinstance(node, ast.BinOp) and isinstance(node.op, ast.Pow):
                self.assertIsInstance(node.right, ast.Constant, place)
            if isinstance(node, ast.Call) and isinstance(node.func, ast.Name) and node.func.id in LISTS_ONLY:
                self.assertFalse(any(isinstance(arg, ast.GeneratorExp) for arg in node.args), place)

    def test_imports(self):
        defined = {path.stem: {node.name for node in tree.body if isinstance(node, (ast.FunctionDef, ast.ClassDef))}
                   | {name for node in tree.body if isinstance(node, ast.Assign) for name in bound_names(node.targets[0])}
                   for path, tree in self.trees}
        for path, tree in self.trees:
            for node in ast.walk(tree):
                if not isinstance(node, ast.ImportFrom):
                    continue
                self.assertIn(node, tree.body, path.name)
                names = {alias.name for alias in node.names}
                self.assertEqual([alias.asname for alias in node.names if alias.asname], [], path.name)
                if node.module.startswith("slitstairs."):
                    self.assertLessEqual(names, defined[node.module.removeprefix("slitstairs.")], path.name)
                else:
                    self.assertLessEqual(names, LIBRARY[node.module], path.name)

    def test_names(self):
        for place, node in self.nodes():
            for name in bound_names(node):
                method = isinstance(node, ast.FunctionDef) and name in DUNDERS
                self.assertTrue(method or not name.startswith("__"), f"{place} {name}")
                self.assertTrue(method or name not in vars(builtins), f"{place} {name}")
            if isinstance(node, ast.Name) and node.id in vars(builtins):
                self.assertIn(node.id, BUILTINS, place)

    def test_what_is_added_to_items_and_attributes_is_a_literal(self):
        for place, node in self.nodes():
            if isinstance(node, ast.AugAssign) and not isinstance(node.target, ast.Name):
                self.assertIsInstance(node.value, ast.Constant, place)

    def test_extend_gets_a_list_of_its_own(self):
        for place, node in self.nodes():
            if isinstance(node, ast.Call) and isinstance(node.func, ast.Attribute) and node.func.attr in ("extend", "update"):
                (told,) = node.args
                made = isinstance(told, ast.Call) and ast.unparse(told.func) in ("list", "sorted")
                self.assertTrue(made or isinstance(told, (ast.List, ast.ListComp, ast.BinOp)), place)

    def test_set_literals_have_no_stars(self):
        for place, node in self.nodes():
            if isinstance(node, ast.Set):
                self.assertFalse(any(isinstance(part, ast.Starred) for part in node.elts), place)

    def test_what_stands_behind_the_star_of_a_call(self):
        for place, node in self.nodes():
            for arg in node.args if isinstance(node, ast.Call) else ():
                if isinstance(arg, ast.Starred):
                    self.assertIsInstance(arg.value, (ast.Name, ast.Attribute), place)

    def test_what_generators_are_passed(self):
        """What a generator is passed stands there plainly: names, attributes and literals, and calls of builtins."""
        generators = generator_names(self.trees)
        for place, node in self.nodes():
            if isinstance(node, ast.Call) and isinstance(node.func, ast.Name) and node.func.id in generators:
                for part in node.args:
                    plain = isinstance(part, ast.Call) and ast.unparse(part.func) in BUILTINS
                    self.assertTrue(plain or isinstance(part, (ast.Name, ast.Attribute, ast.Constant)), place)

    def test_names_of_inner_comprehensions_are_their_own(self):
        made = (ast.ListComp, ast.SetComp, ast.DictComp, ast.GeneratorExp)

        def targets(node):
            return {name for part in node.generators for told in ast.walk(part.target) for name in bound_names(told)}

        def look(node, place, outer, inside):
            """Outer: the names that are assigned further out; inside: whether a comprehension is further out."""
            if isinstance(node, made):
                if inside:
                    self.assertEqual(targets(node) & outer - {"_"}, set(), place)
                outer, inside = outer | targets(node), True
            for part in ast.iter_child_nodes(node):
                look(part, place, outer, inside)

        for place, node in self.nodes():
            if isinstance(node, ast.FunctionDef):
                held = {id(part) for each in ast.walk(node) if isinstance(each, made) for part in ast.walk(each)}
                names = {name for part in ast.walk(node) if id(part) not in held for name in bound_names(part)}
                look(node, place, names, False)

    def test_locals_are_no_imports_and_no_classes(self):
        for path, tree in self.trees:
            taken = {alias.name for node in tree.body if isinstance(node, ast.ImportFrom) for alias in node.names}
            taken |= {node.name for node in tree.body if isinstance(node, ast.ClassDef)}
            for node in ast.walk(tree):
                if isinstance(node, (ast.arg, ast.Name, ast.ExceptHandler)):
                    for name in bound_names(node):
                        self.assertNotIn(name, taken, f"{path.name}:{node.lineno}")

    def test_one_binding_for_each_name(self):
        for path, tree in self.trees:
            names = [alias.name for node in tree.body if isinstance(node, ast.ImportFrom) for alias in node.names]
            names += [node.name for node in tree.body if isinstance(node, (ast.FunctionDef, ast.ClassDef))]
            names += [target.id for node in tree.body if isinstance(node, ast.Assign) for target in node.targets]
            self.assertEqual(sorted(names), sorted(set(names)), path.name)

    def test_the_underscore_is_never_read(self):
        for place, node in self.nodes():
            if isinstance(node, ast.Name) and node.id == "_":
                self.assertIsInstance(node.ctx, ast.Store, place)

    def test_no_two_files_import_from_each_other(self):
        needs = {path.stem: {node.module.removeprefix("slitstairs.") for node in tree.body
                             if isinstance(node, ast.ImportFrom) and node.module.startswith("slitstairs.")}
                 for path, tree in self.trees}
        left = set(needs)
        while left:
            ready = {name for name in left if not needs[name] & left}
            self.assertTrue(ready, f"in a ring: {sorted(left)}")
            left -= ready

    def test_what_is_iterated_at_once(self):
        barred = {"zip", "enumerate", "reversed", "range", "pairwise", "accumulate", "chain"} | generator_names(self.trees)
        for path, tree in self.trees:
            parents = {child: node for node in ast.walk(tree) for child in ast.iter_child_nodes(node)}
            for node in ast.walk(tree):
                if not isinstance(node, ast.Call):
                    continue
                name = getattr(node.func, "id", None) or getattr(node.func, "attr", None)
                if name in barred or (name in ("items", "keys", "values") and not node.args):
                    parent = parents[node]
                    held = isinstance(parent, ast.Call) and ast.unparse(parent.func) in ("list", "tuple", "enumerate", "zip")
                    self.assertTrue(held or isinstance(parent, (ast.For, ast.comprehension)), f"{path.name}:{node.lineno}")

    def test_where_sets_stand(self):
        for path, tree in self.trees:
            parents = {child: node for node in ast.walk(tree) for child in ast.iter_child_nodes(node)}
            for node in ast.walk(tree):
                made = isinstance(node, ast.Call) and ast.unparse(node.func) == "set"
                if made or isinstance(node, (ast.Set, ast.SetComp)):
                    parent = parents[node]
                    held = isinstance(parent, ast.Call) and ast.unparse(parent.func) in ("sorted", "len")
                    self.assertTrue(held or isinstance(parent, (ast.Assign, ast.Compare)), f"{path.name}:{node.lineno}")

    def test_names_of_methods_and_generators(self):
        attributes, methods, functions = {}, {}, set()
        for path, tree in self.trees:
            functions |= {node.name for node in tree.body if isinstance(node, ast.FunctionDef)}
            for told in tree.body:
                for node in ast.walk(told) if isinstance(told, ast.ClassDef) else ():
                    if isinstance(node, ast.FunctionDef):
                        methods.setdefault(node.name, []).append((told.name, bool(node.decorator_list)))
                    if isinstance(node, ast.Attribute) and isinstance(node.ctx, ast.Store):
                        attributes.setdefault(node.attr, set()).add(told.name)
        for name, places in methods.items():
            owners = [owner for owner, _ in places]
            self.assertEqual(sorted(owners), sorted(set(owners)), name)
            self.assertEqual(attributes.get(name, set()) & set(owners), set(), name)
            if any(decorated for _, decorated in places):
                self.assertNotIn(name, attributes)
        for name in generator_names(self.trees):
            self.assertEqual(len(methods.get(name, [])) + (name in functions), 1, name)
            self.assertNotIn(name, attributes)

    def test_decorators(self):
        for place, node in self.nodes():
            for decorator in getattr(node, "decorator_list", []):
                told = ast.unparse(decorator)
                self.assertTrue(told in ("property", "staticmethod", "classmethod") or told.endswith(".setter"), place)


def is_property(node):
    return any(ast.unparse(decorator).split(".")[-1] in ("property", "setter") for decorator in node.decorator_list)


class Asked:
    """What properties and operators run: the functions that they call, and what these call, by name."""

    def __init__(self, trees):
        self.attributes = set()
        self.functions = {}
        self.methods = {}
        self.properties = {}
        self.library = set()
        self.roots = []
        for place, tree in trees:
            self.add_names(place, tree)

    def add_names(self, place, tree):
        for node in ast.walk(tree):
            if isinstance(node, ast.Attribute) and isinstance(node.ctx, ast.Store):
                self.attributes.add(node.attr)
            if isinstance(node, ast.ImportFrom) and node.module in LIBRARY:
                self.library.update(alias.name for alias in node.names)
        for node in tree.body:
            if isinstance(node, ast.FunctionDef):
                self.functions.setdefault(node.name, []).append((place, node))
            if isinstance(node, ast.ClassDef):
                self.functions.setdefault(node.name, [])
                for method in node.body:
                    if isinstance(method, ast.FunctionDef):
                        self.add_method(place, node, method)

    def add_method(self, place, node, method):
        if method.name == "__init__":
            self.functions[node.name].append((place, method))
        elif is_property(method):
            self.properties.setdefault(method.name, []).append((place, method))
            self.roots.append((place, method))
        else:
            self.methods.setdefault(method.name, []).append((place, method))
            if method.name in ASKED:
                self.roots.append((place, method))

    def run(self):
        """The functions and methods that are run, the roots among them."""
        found = []
        waiting = list(self.roots)
        while waiting:
            place, function = waiting.pop()
            if (place, function) in found:
                continue
            found.append((place, function))
            for node in ast.walk(function):
                if isinstance(node, ast.Attribute):
                    waiting.extend(self.properties.get(node.attr, []))
                if isinstance(node, ast.Call) and isinstance(node.func, ast.Name):
                    waiting.extend(self.functions.get(node.func.id, []))
                if isinstance(node, ast.Call) and isinstance(node.func, ast.Attribute):
                    waiting.extend(self.methods.get(node.func.attr, []))
        return found

    def faults(self):
        found = []
        for place, function in self.run():
            for node in ast.walk(function):
                told = (place, function.name, getattr(node, "lineno", 0))
                if isinstance(node, ast.Call) and isinstance(node.func, ast.Attribute):
                    if node.func.attr in self.attributes:
                        found.append((*told, node.func.attr))
                elif isinstance(node, ast.Call):
                    name = node.func.id if isinstance(node.func, ast.Name) else "?"
                    if name not in self.functions and name not in self.library and name not in vars(builtins):
                        found.append((*told, name))
                if isinstance(node, ast.Attribute) and not isinstance(node.ctx, ast.Load):
                    if function.name != "__init__":
                        found.append((*told, node.attr))
        return found


class AskedTest(unittest.TestCase):
    """A property or an operator, and all that it calls, calls no name that is an attribute too, nothing
    that it is passed or holds, and assigns no attribute."""

    def package(self):
        return [(path.name, ast.parse(path.read_text())) for path in sorted(PACKAGE.glob("*.py"))]

    def test_the_package(self):
        asked = Asked(self.package())
        self.assertLessEqual({"count", "place", "index"}, asked.attributes)
        names = {function.name for _, function in asked.run()}
        self.assertLessEqual({"places", "hollows", "ridges", "rank", "__add__", "__bool__", "__eq__", "__len__"}, names)
        self.assertEqual(asked.faults(), [])

    def faults(self, text):
        return [fault[-1] for fault in Asked([*self.package(), ("told.py", ast.parse(text))]).faults()]

    def test_what_it_finds(self):
        self.assertEqual(self.faults("class Told:\n @property\n def held(self):\n  return self.word.count(1)"), ["count"])
        self.assertEqual(self.faults("class Told:\n def __len__(self):\n  return len(self.place(1))"), ["place", "count"])
        self.assertEqual(self.faults("class Told:\n def held(self):\n  return self.word.count(1)"), [])
        self.assertEqual(self.faults("""
def far(word):
    return word.index("d")
def near(word):
    return far(word)
class Told:
    def __init__(self, word):
        self.word = word
    @property
    def held(self):
        return near(self.word)
"""), ["index"])
        self.assertEqual(self.faults("class Told:\n def __add__(self, other):\n  return other(1)"), ["other"])
        self.assertEqual(self.faults("class Told:\n def __eq__(self, other):\n  self.seen = 1\n  return 1"), ["seen"])

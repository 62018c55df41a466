"""The package keeps to its small part of Python: as many of the rules L1 to L28 as a walk of the code can see."""

import ast
import builtins
import pathlib
import re
import unittest

PACKAGE = pathlib.Path(__file__).resolve().parent.parent / "cartelship"

CALLS = set("""len range enumerate zip min max sum abs sorted reversed int str bool list tuple dict set frozenset
isinstance ord repr any all divmod""".split())
PYTHON_ERRORS = set("""Exception ValueError TypeError KeyError IndexError LookupError ZeroDivisionError ArithmeticError
OverflowError RuntimeError NotImplementedError AttributeError StopIteration""".split())
METHODS = set("""append clear copy count endswith extend find get index insert isalnum isalpha isdigit islower isspace
isupper items join keys ljust lower lstrip partition pop remove replace reverse rfind rjust rpartition rsplit rstrip
setdefault split splitlines startswith strip update upper values zfill bit_length""".split())
DUNDER_METHODS = {"__init__", "__eq__", "__repr__", "__str__", "__len__"}
NOWHERE = set("register mro elements open input version_info with_traceback add_note format format_map".split())
NO_WORDS = re.compile(
    r"\b(type|typing|typing_extensions|enum|Enum|IntEnum|StrEnum|Flag|IntFlag|Generic|Protocol|ABC|ABCMeta|namedtuple"
    r"|NamedTuple|TypedDict|TYPE_CHECKING|abstractmethod)\b|dataclass|overload|contextmanager")
# Where Python's own values have a method or a value of that name, an own one may not be called so, but for these.
OWN_METHODS = METHODS | {"add", "discard"}
OWN_VALUES = set("count index title find get join lower upper split strip copy add".split())
PYTHON_KINDS = (str, int, list, tuple, dict, set, frozenset, bytes)
KEYWORDS = {"sorted": {"key", "reverse"}, "min": {"key", "default"}, "max": {"key", "default"}, "sum": {"start"},
            "enumerate": {"start"}, "zip": {"strict"}}
WALKS = set("zip enumerate reversed range".split())
WALK_METHODS = set("items keys values".split())
WALKERS = set("list tuple dict sorted sum any all enumerate zip".split())
NODES = """Module Expr ImportFrom alias FunctionDef arguments arg ClassDef Assign AugAssign If While For Return Break
Continue Pass Raise Try ExceptHandler Call keyword Name Load Store Attribute Subscript Slice Constant List Tuple Dict Set
BinOp Add Sub Mult FloorDiv Mod Pow BitAnd BitOr BitXor LShift RShift UnaryOp USub UAdd Not Invert BoolOp And Or Compare
Eq NotEq Lt LtE Gt GtE Is IsNot In NotIn IfExp ListComp comprehension JoinedStr FormattedValue Lambda"""
NODE_KINDS = tuple(getattr(ast, name) for name in NODES.split())


def sign_faults(source):
    for place, row in enumerate(source.split("\n"), start=1):
        if any(not " " <= sign <= "~" for sign in row):
            yield "L14", place
        if len(row) > 120:
            yield "L10", place
        if NO_WORDS.search(row):
            yield "L17", place
    if len(source.splitlines()) > 400:
        yield "L10", 401


def top_faults(tree):
    bound = []
    for place, node in enumerate(tree.body):
        if isinstance(node, ast.Expr):
            if place != 0 or not isinstance(node.value, ast.Constant):
                yield "L3", node.lineno
        elif isinstance(node, ast.ImportFrom):
            if node.level != 0 or not (node.module or "").startswith("cartelship."):
                yield "L2", node.lineno
            if any(part.name == "*" or part.name.startswith("__") for part in node.names):
                yield "L2", node.lineno
            bound += [part.asname or part.name for part in node.names]
        elif isinstance(node, ast.Assign):
            if any(isinstance(each, (ast.Call, ast.ListComp, ast.Set)) for each in ast.walk(node)):
                yield "L3", node.lineno
            bound += [target.id for target in node.targets if isinstance(target, ast.Name)]
        elif isinstance(node, (ast.FunctionDef, ast.ClassDef)):
            bound.append(node.name)
        else:
            yield "L3", node.lineno
    if len(bound) != len(set(bound)):
        yield "L15", 1


def is_written(node):
    return isinstance(node, ast.Constant) and isinstance(node.value, int) and 0 <= node.value <= 64


def statement_faults(node):
    if not isinstance(node, NODE_KINDS):
        yield "L6", getattr(node, "lineno", 0)
    if isinstance(node, ast.Expr) and not isinstance(node.value, (ast.Call, ast.Constant)):
        yield "L6", node.lineno
    if isinstance(node, (ast.For, ast.While)) and node.orelse:
        yield "L6", node.lineno
    if isinstance(node, ast.Try) and node.finalbody:
        yield "L6", node.lineno
    if isinstance(node, ast.Assign) and len(node.targets) != 1:
        yield "L6", node.lineno
    if isinstance(node, (ast.FunctionDef, ast.ClassDef)) and node.decorator_list:
        yield "L4", node.lineno
    if isinstance(node, ast.FunctionDef) and node.end_lineno - node.lineno >= 40:
        yield "L10", node.lineno
    if isinstance(node, ast.arguments) and (node.vararg or node.kwarg or node.kwonlyargs or node.posonlyargs):
        yield "L4", 0
    if isinstance(node, ast.ClassDef):
        if len(node.bases) > 1 or any(not isinstance(each, (ast.FunctionDef, ast.Pass)) for each in node.body):
            yield "L5", node.lineno
    if isinstance(node, ast.ExceptHandler):
        if node.type is None or any(isinstance(each, ast.Name) and each.id in ("Exception", "TypeError")
                                    for each in ast.walk(node.type)):
            yield "L19", node.lineno


def value_faults(node):
    if isinstance(node, ast.Constant):
        if not isinstance(node.value, (int, str, type(None))):
            yield "L7", node.lineno
        if isinstance(node.value, str) and "%" in node.value:
            yield "L27", node.lineno
    if isinstance(node, ast.BinOp) and isinstance(node.op, ast.Pow) and not is_written(node.right):
        yield "L27", node.lineno
    if isinstance(node, ast.FormattedValue) and (not isinstance(node.value, ast.Name) or node.format_spec):
        yield "L7", node.lineno
    if isinstance(node, ast.ListComp) and (len(node.generators) > 1 or len(node.generators[0].ifs) > 1):
        yield "L7", node.lineno
    if isinstance(node, ast.Compare) and any(isinstance(each, (ast.Is, ast.IsNot)) for each in node.ops):
        sides = [node.left] + node.comparators
        if not any(isinstance(each, ast.Constant) and each.value in (None, True, False) for each in sides):
            yield "L20", node.lineno


def own_names(node):
    if isinstance(node, ast.Name) and isinstance(node.ctx, ast.Store):
        return [node.id]
    if isinstance(node, ast.arg):
        return [node.arg]
    if isinstance(node, (ast.FunctionDef, ast.ClassDef)):
        return [node.name]
    if isinstance(node, ast.ExceptHandler) and node.name:
        return [node.name]
    return []


def name_faults(node, methods):
    line = getattr(node, "lineno", 0)
    for name in own_names(node):
        if not re.fullmatch("[A-Za-z][A-Za-z0-9_]*", name) and name not in DUNDER_METHODS:
            yield "L12", line
        if hasattr(builtins, name) and not isinstance(node, ast.FunctionDef):
            yield "L15", line
        if name in NOWHERE:
            yield "L17", line
    if isinstance(node, ast.Name) and isinstance(node.ctx, ast.Load):
        if hasattr(builtins, node.id) and node.id not in CALLS | PYTHON_ERRORS:
            yield "L8", line
    if isinstance(node, ast.Attribute) and (node.attr in NOWHERE or node.attr.startswith("_")):
        if node.attr != "__init__":
            yield "L17", line
    if isinstance(node, ast.Call) and isinstance(node.func, ast.Attribute):
        if node.func.attr not in METHODS | methods | {"__init__"}:
            yield "L25", line


def is_walk(node):
    if not isinstance(node, ast.Call):
        return False
    if isinstance(node.func, ast.Attribute):
        return node.func.attr in WALK_METHODS
    return isinstance(node.func, ast.Name) and node.func.id in WALKS


def walked_on_the_spot(node):
    """What stands in this node at a place where a walk may stand."""
    if isinstance(node, (ast.For, ast.comprehension)):
        return [node.iter]
    if not isinstance(node, ast.Call):
        return []
    if isinstance(node.func, ast.Attribute):
        return node.args if node.func.attr == "join" and isinstance(node.func.value, ast.Constant) else []
    if isinstance(node.func, ast.Name) and node.func.id in WALKERS | {"min", "max"}:
        return node.args[:1] if node.func.id in WALKERS or len(node.args) == 1 else []
    return []


def walk_faults(tree):
    nodes = list(ast.walk(tree))
    places = [each for node in nodes for each in walked_on_the_spot(node)]
    for node in nodes:
        if is_walk(node) and not any(node is each for each in places):
            yield "L23", node.lineno


def parents_of(tree):
    return {id(child): node for node in ast.walk(tree) for child in ast.iter_child_nodes(node)}


def set_stands_well(node, parents):
    """Beside `in`, `==` or `!=`, or straight within sorted or len, with operators between where there are several."""
    above = parents[id(node)]
    while isinstance(above, ast.BinOp):
        above = parents[id(above)]
    if isinstance(above, ast.Compare):
        return all(isinstance(each, (ast.In, ast.NotIn, ast.Eq, ast.NotEq)) for each in above.ops)
    return isinstance(above, ast.Call) and isinstance(above.func, ast.Name) and above.func.id in ("sorted", "len")


def form_faults(tree):
    parents = parents_of(tree)
    for node in ast.walk(tree):
        if isinstance(node, ast.Call) and isinstance(node.func, ast.Name):
            if node.func.id in ("set", "frozenset") and not set_stands_well(node, parents):
                yield "L24", node.lineno
            if node.func.id in CALLS and {each.arg for each in node.keywords} - KEYWORDS.get(node.func.id, set()):
                yield "L22", node.lineno
        if isinstance(node, ast.Call) and isinstance(node.func, ast.Attribute) and node.keywords:
            yield "L22", node.lineno
        if isinstance(node, ast.Name) and node.id in CALLS and isinstance(node.ctx, ast.Load):
            above = parents[id(node)]
            if not (isinstance(above, ast.Call) and above.func is node or isinstance(above, ast.keyword)
                    or isinstance(above, (ast.Call, ast.Tuple))):
                yield "L22", node.lineno
        if isinstance(node, ast.FunctionDef) and node.returns or isinstance(node, ast.arg) and node.annotation:
            yield "L21", node.lineno
        if isinstance(node, ast.FunctionDef) and node.name == "__init__":
            if any(isinstance(each, ast.Return) for each in ast.walk(node)):
                yield "L28", node.lineno
        if isinstance(node, ast.Assign) and isinstance(node.targets[0], (ast.Tuple, ast.List)):
            yield "L6", node.lineno


def raise_faults(tree):
    for node in ast.walk(tree):
        if isinstance(node, ast.Raise):
            if not (isinstance(node.exc, ast.Call) and isinstance(node.exc.func, ast.Name)) or node.exc.keywords:
                yield "L19", node.lineno
        # None of Python's own errors is taken anywhere in the package, so the rules for taking them are not needed.
        if isinstance(node, ast.ExceptHandler) and node.type is not None:
            if any(isinstance(each, ast.Name) and each.id in PYTHON_ERRORS for each in ast.walk(node.type)):
                yield "L19", node.lineno


def class_faults(tree, classes):
    """A class is called, is a base, is taken by except or stands by isinstance, and is nothing else."""
    parents = parents_of(tree)
    for node in ast.walk(tree):
        if isinstance(node, ast.Name) and node.id in classes:
            above = parents[id(node)]
            called = isinstance(above, ast.Call) and (above.func is node or getattr(above.func, "id", "") == "isinstance")
            if not called and not isinstance(above, (ast.ClassDef, ast.ExceptHandler)):
                yield "L18", node.lineno
        if isinstance(node, ast.ClassDef) and node not in tree.body:
            yield "L15", node.lineno


def local_faults(tree):
    """No parameter and no local is called like a class or an import of its file; what stands at the top is only read."""
    top = {part.name for node in tree.body if isinstance(node, ast.ImportFrom) for part in node.names}
    top |= {node.name for node in tree.body if isinstance(node, ast.ClassDef)}
    kept = {target.id for node in tree.body if isinstance(node, ast.Assign) for target in node.targets
            if isinstance(node.value, (ast.List, ast.Dict))}
    for node in tree.body:
        if isinstance(node, (ast.FunctionDef, ast.ClassDef)):
            for each in ast.walk(node):
                if isinstance(each, (ast.Name, ast.arg)) and set(own_names(each)) & (top | kept):
                    yield "L15", each.lineno
    parents = parents_of(tree)
    for node in ast.walk(tree):
        if isinstance(node, ast.Name) and node.id in kept and isinstance(node.ctx, ast.Load):
            above = parents[id(node)]
            read = isinstance(above, ast.Subscript) and isinstance(above.ctx, ast.Load) or isinstance(above, ast.Compare)
            if not read and not (isinstance(above, ast.Attribute) and above.attr == "get"):
                yield "L15", node.lineno


def is_pythons_own(name):
    return any(hasattr(kind, name) for kind in PYTHON_KINDS)


def class_methods(trees):
    return {each.name for tree in trees for node in ast.walk(tree) if isinstance(node, ast.ClassDef)
            for each in node.body if isinstance(each, ast.FunctionDef)}


def object_values(trees):
    return {node.attr for tree in trees for node in ast.walk(tree)
            if isinstance(node, ast.Attribute) and isinstance(node.ctx, ast.Store)}


def faults(source, methods=frozenset()):
    tree = ast.parse(source)
    found = list(sign_faults(source)) + list(top_faults(tree)) + list(walk_faults(tree))
    found += list(form_faults(tree)) + list(raise_faults(tree)) + list(local_faults(tree))
    for node in ast.walk(tree):
        found += list(statement_faults(node)) + list(value_faults(node)) + list(name_faults(node, methods))
    return found


def drawn(tree):
    return [node.module.split(".")[1] for node in tree.body if isinstance(node, ast.ImportFrom)]


def reached(start, graph):
    seen, waiting = set(), list(graph[start])
    while waiting:
        name = waiting.pop()
        if name not in seen:
            seen.add(name)
            waiting += graph[name]
    return seen


class Package(unittest.TestCase):
    def setUp(self):
        self.paths = sorted(path for path in PACKAGE.iterdir() if path.name != "__pycache__")
        self.sources = {path.stem: path.read_text(encoding="utf-8") for path in self.paths}
        self.trees = {stem: ast.parse(source) for stem, source in self.sources.items()}

    def test_files(self):
        self.assertIn("__init__", self.sources)
        for path in self.paths:
            self.assertRegex(path.name, r"\A([a-z][a-z0-9_]*|__init__|__main__)\.py\Z")

    def test_every_file_keeps_to_the_rules(self):
        methods = class_methods(self.trees.values())
        for stem, source in self.sources.items():
            with self.subTest(stem):
                self.assertEqual(faults(source, methods), [])

    def test_no_two_files_draw_from_one_another(self):
        graph = {stem: drawn(tree) for stem, tree in self.trees.items()}
        for stem in graph:
            self.assertNotIn(stem, reached(stem, graph))

    def test_classes_stand_where_they_may(self):
        classes = {node.name for tree in self.trees.values() for node in ast.walk(tree) if isinstance(node, ast.ClassDef)}
        for stem, tree in self.trees.items():
            with self.subTest(stem):
                self.assertEqual(list(class_faults(tree, classes)), [])

    def test_each_name_is_drawn_from_the_file_that_defines_it(self):
        for stem, tree in self.trees.items():
            for node in tree.body:
                if isinstance(node, ast.ImportFrom):
                    there = self.trees[node.module.split(".")[1]].body
                    defined = {each.name for each in there if isinstance(each, (ast.FunctionDef, ast.ClassDef))}
                    defined |= {each.targets[0].id for each in there if isinstance(each, ast.Assign)}
                    with self.subTest(stem, module=node.module):
                        self.assertEqual({part.name for part in node.names} - defined, set())
                        self.assertEqual([part.asname for part in node.names if part.asname], [])

    def test_each_drawn_name_is_used(self):
        for stem, tree in self.trees.items():
            used = {node.id for node in ast.walk(tree) if isinstance(node, ast.Name)}
            for node in tree.body:
                if isinstance(node, ast.ImportFrom):
                    with self.subTest(stem, module=node.module):
                        self.assertEqual({part.name for part in node.names} - used, set())

    def test_own_methods_and_values_are_not_called_like_those_of_pythons_values(self):
        trees = self.trees.values()
        self.assertEqual([name for name in class_methods(trees) - OWN_METHODS - DUNDER_METHODS if is_pythons_own(name)], [])
        self.assertEqual([name for name in object_values(trees) - OWN_VALUES if is_pythons_own(name)], [])

    def test_no_name_is_a_method_and_a_value(self):
        trees = self.trees.values()
        self.assertEqual(class_methods(trees) & object_values(trees), set())


class Checks(unittest.TestCase):
    def assertFault(self, rule, source):
        with self.subTest(source):
            self.assertIn(rule, [each for each, line in faults(source)])

    def test_plain_code_has_no_fault(self):
        self.assertEqual(faults('"""Top."""\n\nMOST = 3\n\n\ndef twice(many):\n    return many * 2\n'), [])

    def test_wrong_files(self):
        self.assertFault("L10", "x = 1" + " " * 120 + "\n")
        self.assertFault("L10", "\n" * 401)
        self.assertFault("L10", "def f():\n" + "    pass\n" * 40)
        self.assertFault("L14", "# caf\u00e9\n")
        self.assertFault("L14", "def f():\n\tpass\n")
        self.assertFault("L17", "# of any type\n")

    def test_wrong_tops(self):
        self.assertFault("L2", "from os.path import join\n")
        self.assertFault("L2", "from .errors import Own\n")
        self.assertFault("L3", "import random\n")
        self.assertFault("L3", "print(3)\n")
        self.assertFault("L3", "xs = list(ys)\n")
        self.assertFault("L15", "x = 1\nx = 2\n")

    def test_wrong_statements(self):
        self.assertFault("L4", "def f(*xs):\n    pass\n")
        self.assertFault("L5", "class A:\n    x = 1\n")
        self.assertFault("L6", "def f(xs):\n    assert xs\n")
        self.assertFault("L6", "def f(xs):\n    for x in xs:\n        pass\n    else:\n        pass\n")
        self.assertFault("L6", "def f():\n    a = b = 1\n")
        self.assertFault("L19", "def f():\n    try:\n        g()\n    except Exception:\n        pass\n")

    def test_wrong_values(self):
        self.assertFault("L6", "def f(x):\n    return x / 2\n")
        self.assertFault("L7", "def f():\n    return 1.5\n")
        self.assertFault("L7", "def f(xs):\n    return f'{xs[0]}'\n")
        self.assertFault("L20", "def f(x, y):\n    return x is y\n")
        self.assertFault("L27", "def f():\n    return 'a % b'\n")
        self.assertFault("L27", "def f(n):\n    return 2 ** n\n")

    def test_wrong_walks(self):
        self.assertFault("L23", "def f(xs):\n    return zip(xs, xs)\n")
        self.assertFault("L23", "def f(xs):\n    pairs = enumerate(xs)\n")
        self.assertFault("L23", "def f(n):\n    for k in reversed(range(n)):\n        g(k)\n")
        self.assertFault("L23", "def f(d):\n    return len(d.keys())\n")
        self.assertFault("L23", "def f(n, xs):\n    return list(zip(xs, range(n)))\n")
        self.assertEqual(faults("def f(n):\n    return list(range(n)) + [k for k in range(n)]\n"), [])
        self.assertEqual(faults("def f(d):\n    for k, v in d.items():\n        g(k, max(d.values()))\n"), [])

    def test_wrong_forms(self):
        self.assertFault("L24", "def f(xs):\n    ys = set(xs)\n")
        self.assertFault("L24", "def f(xs):\n    for x in set(xs):\n        g(x)\n")
        self.assertEqual(faults("def f(xs, ys):\n    return len(set(xs) - set(ys)) + len(sorted(set(xs)))\n"), [])
        self.assertFault("L22", "def f(xs):\n    return list(x=xs)\n")
        self.assertFault("L22", "def f():\n    g = len\n")
        self.assertFault("L21", "def f(x: int):\n    return x\n")
        self.assertFault("L28", "class A:\n    def __init__(self):\n        return None\n")
        self.assertFault("L6", "def f(xs):\n    a, b = xs\n")

    def test_wrong_errors(self):
        self.assertFault("L19", "def f():\n    raise\n")
        self.assertFault("L19", "def f(e):\n    raise e\n")
        self.assertFault("L19", "def f(x):\n    try:\n        g(x)\n    except ValueError:\n        h(x)\n")

    def test_wrong_classes(self):
        for source in ("def f():\n    return A\n", "def f(x):\n    x.append(A)\n", "xs = [A]\n"):
            with self.subTest(source):
                self.assertEqual([rule for rule, line in class_faults(ast.parse(source), {"A"})], ["L18"])

    def test_wrong_locals_and_tops(self):
        self.assertFault("L15", "from cartelship.errors import Own\n\n\ndef f(Own):\n    pass\n")
        self.assertFault("L15", "XS = [1]\n\n\ndef f():\n    XS.append(2)\n")
        self.assertFault("L15", "XS = {1: 2}\n\n\ndef f():\n    XS[1] = 3\n")
        self.assertFault("L15", "XS = [1]\n\n\ndef f():\n    return XS\n")

    def test_wrong_names(self):
        self.assertFault("L8", "def f(x):\n    return hash(x)\n")
        self.assertFault("L12", "def f(_x):\n    pass\n")
        self.assertFault("L15", "def f(list):\n    pass\n")
        self.assertFault("L17", "def f(x):\n    return x.__class__\n")
        self.assertFault("L25", "def f(xs):\n    xs.sort()\n")


if __name__ == "__main__":
    unittest.main()

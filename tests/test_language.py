"""The package keeps to the part of Python that it may use: those rules that a walk over its files can see."""

import ast
import builtins
import re
import unittest
from pathlib import Path

PACKAGE = Path(__file__).resolve().parent.parent / "widelanes"
FILES = sorted(PACKAGE.rglob("*.py"))

BANNED_NODES = (
    ast.With, ast.Match, ast.Delete, ast.Global, ast.Nonlocal, ast.Assert, ast.Yield, ast.YieldFrom,
    ast.AsyncFunctionDef, ast.AsyncFor, ast.AsyncWith, ast.Await, ast.SetComp, ast.DictComp,
    ast.GeneratorExp, ast.NamedExpr, ast.Starred, ast.Div, ast.MatMult,
)
OWN_NAMES = set("""
    len range enumerate zip min max sum abs sorted reversed int str bool list tuple dict set frozenset
    isinstance ord repr any all divmod Exception ValueError TypeError KeyError IndexError LookupError
    ZeroDivisionError ArithmeticError OverflowError RuntimeError NotImplementedError AttributeError StopIteration
""".split())
PYTHONS_OWN = {name for name in dir(builtins) if not name.startswith("_")}
METHODS = set("__init__ __eq__ __repr__ __str__ __len__".split())
WORDS = re.compile(
    r"\b(type|typing|typing_extensions|enum|Enum|IntEnum|StrEnum|Flag|IntFlag|Generic|Protocol|ABC|ABCMeta"
    r"|namedtuple|NamedTuple|TypedDict|TYPE_CHECKING|abstractmethod)\b|dataclass|overload|contextmanager"
)


def text_faults(source):
    faults = []
    lines = source.split("\n")
    if len(lines) > 401:
        faults.append("L10 a long file")
    for line in lines:
        if len(line) > 120:
            faults.append("L10 a long line")
        if not all(" " <= sign <= "~" for sign in line):
            faults.append("L14 a sign")
        if WORDS.search(line):
            faults.append("L17 a word")
    return faults


def names_bound(tree):
    # A method may be called like a name of Python's own, so methods are left out but for a leading underscore.
    classes = [node for node in ast.walk(tree) if isinstance(node, ast.ClassDef)]
    methods = [part for node in classes for part in node.body if isinstance(part, ast.FunctionDef)]
    bound = [method.name for method in methods if method.name.startswith("_")]
    for node in ast.walk(tree):
        if isinstance(node, ast.Name) and isinstance(node.ctx, ast.Store):
            bound.append(node.id)
        elif isinstance(node, (ast.FunctionDef, ast.ClassDef)) and node not in methods:
            bound.append(node.name)
        elif isinstance(node, ast.arg):
            bound.append(node.arg)
        elif isinstance(node, ast.alias):
            bound.append(node.asname or node.name)
        elif isinstance(node, ast.ExceptHandler) and node.name:
            bound.append(node.name)
    return bound


def node_faults(node):
    if isinstance(node, BANNED_NODES):
        return ["L6 L7 " + type(node).__name__]
    if isinstance(node, ast.Import):
        return ["L16 import"]
    if isinstance(node, ast.ImportFrom):
        own = node.level == 0 and (node.module or "").startswith("widelanes.")
        return [] if own and node.names[0].name != "*" else ["L2 import"]
    if isinstance(node, ast.Constant) and isinstance(node.value, (float, complex, bytes)):
        return ["L7 a value"]
    if isinstance(node, ast.Assign) and len(node.targets) != 1:
        return ["L6 targets"]
    if isinstance(node, (ast.For, ast.While)) and node.orelse:
        return ["L6 else behind a loop"]
    if isinstance(node, ast.Try) and node.finalbody:
        return ["L6 finally"]
    if isinstance(node, ast.ListComp) and (len(node.generators) > 1 or len(node.generators[0].ifs) > 1):
        return ["L7 a comprehension"]
    if isinstance(node, (ast.FunctionDef, ast.ClassDef)):
        return def_faults(node)
    if isinstance(node, ast.Compare) and any(isinstance(op, (ast.Is, ast.IsNot)) for op in node.ops):
        side = node.comparators[0]
        return [] if isinstance(side, ast.Constant) and side.value in (None, True, False) else ["L20 is"]
    return []


def def_faults(node):
    faults = ["L4 L5 decorator"] if node.decorator_list else []
    if isinstance(node, ast.ClassDef):
        if len(node.bases) > 1 or node.keywords:
            faults.append("L5 bases")
        if any(isinstance(part, (ast.Assign, ast.AnnAssign)) for part in node.body):
            faults.append("L5 a value in a class")
    else:
        if node.args.vararg or node.args.kwarg or node.args.kwonlyargs:
            faults.append("L4 parameters")
        if node.end_lineno - node.lineno + 1 > 40:
            faults.append("L10 a long function")
    return faults


def name_faults(tree):
    bound = names_bound(tree)
    faults = ["L12 " + name for name in bound if name.startswith("_") and name not in METHODS]
    faults.extend("L8 L15 " + name for name in bound if name in PYTHONS_OWN)
    for node in ast.walk(tree):
        if isinstance(node, ast.Name) and node.id in PYTHONS_OWN and node.id not in OWN_NAMES:
            faults.append("L8 " + node.id)
    return faults


def faults_of(source):
    tree = ast.parse(source)
    faults = text_faults(source) + name_faults(tree)
    for node in ast.walk(tree):
        faults.extend(node_faults(node))
    return faults


class TestLanguage(unittest.TestCase):
    def test_the_package_is_there(self):
        names = [path.name for path in FILES]
        for name in ("__init__.py", "errors.py", "outcome.py", "sums.py"):
            self.assertIn(name, names)

    def test_nothing_but_plainly_named_files_lies_in_the_package(self):
        for path in PACKAGE.rglob("*"):
            if "__pycache__" not in path.parts:
                self.assertTrue(path.is_file(), path)
                self.assertRegex(path.name, r"\A([a-z][a-z0-9_]*|__init__|__main__)\.py\Z")

    def test_each_file_keeps_to_the_rules(self):
        for path in FILES:
            with self.subTest(file=path.name):
                self.assertEqual(faults_of(path.read_text(encoding="utf-8")), [])

    def test_what_is_outside_the_rules_is_found(self):
        for source in (
            "import os", "from .sums import wrapped", "from widelanes.sums import *", "x = 1.5", "x = 4 / 2",
            "x = y = 1", "def f(*many):\n    pass", "def f():\n    yield 1", "x = {k for k in (1, 2)}",
            "x = 1  # its type", "x = '\t'", "x = " + "1" * 120, "id = 3", "x = map", "hidden = _x = 1",
            "class A:\n    x = 1", "def f():\n" + "    pass\n" * 40, "x = 1 is 2", "x = '\u00e9'",
            "while 1:\n    pass\nelse:\n    pass", "with x:\n    pass", "assert 1", "\n" * 401,
            "x = [a for b in c for a in b]", "def f(list):\n    pass",
            "class A:\n    def _hidden(self):\n        pass", "def max(a):\n    return a",
        ):
            with self.subTest(source=source[:40]):
                self.assertNotEqual(faults_of(source), [])


if __name__ == "__main__":
    unittest.main()

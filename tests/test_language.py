"""The package keeps to the part of Python that it may use: those rules that a walk over its files can see."""

import unittest
from pathlib import Path

from language_rules import faults_between, faults_of

PACKAGE = Path(__file__).resolve().parent.parent / "widelanes"
FILES = sorted(PACKAGE.rglob("*.py"))


class TestLanguage(unittest.TestCase):
    def test_the_package_is_there(self):
        names = [path.name for path in FILES]
        modules = ("__init__", "errors", "outcome", "sums", "words", "lines", "texts", "marks", "rows", "ways", "could",
                   "joints", "alone", "together", "shared", "machine", "desk")
        for module in modules:
            self.assertIn(module + ".py", names)

    def test_nothing_but_plainly_named_files_lies_in_the_package(self):
        for path in PACKAGE.rglob("*"):
            if "__pycache__" not in path.parts:
                self.assertTrue(path.is_file(), path)
                self.assertRegex(path.name, r"\A([a-z][a-z0-9_]*|__init__|__main__)\.py\Z")

    def test_each_file_keeps_to_the_rules(self):
        for path in FILES:
            with self.subTest(file=path.name):
                self.assertEqual(faults_of(path.read_text(encoding="utf-8")), [])

    def test_the_files_together_keep_to_the_rules(self):
        sources = {path.stem: path.read_text(encoding="utf-8") for path in FILES}
        self.assertEqual(faults_between(sources), [])


class TestTheWalk(unittest.TestCase):
    def assert_found(self, sources):
        for source in sources:
            with self.subTest(source=source[:60]):
                self.assertNotEqual(faults_of(source), [])

    def test_what_is_outside_the_rules_is_found(self):
        self.assert_found((
            "import os", "from .sums import wrapped", "from widelanes.sums import *", "x = 1.5", "x = 4 / 2",
            "x = y = 1", "def f(*many):\n    pass", "def f():\n    yield 1", "x = {k for k in (1, 2)}",
            "x = 1  # its type", "x = '\t'", "x = " + "1" * 120, "id = 3", "x = map", "hidden = _x = 1",
            "class A:\n    x = 1", "def f():\n" + "    pass\n" * 40, "x = 1 is 2", "x = '\u00e9'",
            "while 1:\n    pass\nelse:\n    pass", "with x:\n    pass", "assert 1", "\n" * 401,
            "x = [a for b in c for a in b]", "def f(list):\n    pass",
            "class A:\n    def _hidden(self):\n        pass", "def max(a):\n    return a",
        ))

    def test_defaults_that_are_no_plain_values_are_found(self):
        for default in ("()", "[]", "{}", "(1, 2)", "[1]", "1.5", "b''", "X", "len('')", "1 + 1", "...", "-X", "not 1"):
            self.assert_found((
                f"def f(a, b={default}):\n    pass",
                f"class A:\n    def __init__(self, a={default}, b=1):\n        pass",
                f"def f():\n    def g(a={default}):\n        pass\n    return g",
                f"def f():\n    return lambda a={default}: a",
            ))

    def test_plain_defaults_are_let(self):
        for default in ("0", "7", "-1", "''", "'a'", "True", "False", "None"):
            source = f"class A:\n    def __init__(self, a, b={default}):\n        self.b = b\n"
            self.assertEqual(faults_of(source), [], default)
            self.assertEqual(faults_of(f"def f(a={default}):\n    return a\n"), [], default)

    def test_the_top_of_a_file_is_looked_at(self):
        self.assert_found((
            "if 1:\n    x = 1", "x = [[1]]", "x = {1: {}}", "x = 1\nx = 2", "x = len('a')", "f()",
            "X = [1]\ndef f():\n    X.append(2)", "X = [1]\ndef f():\n    return X",
            "X = {1: 2}\ndef f():\n    X[3] = 4",
            "from widelanes.sums import worked\ndef f(worked):\n    pass", "def f():\n    class A:\n        pass",
        ))

    def test_sets_and_walks_are_looked_at(self):
        self.assert_found((
            "def f(a):\n    b = set(a)", "def f(a):\n    for b in set(a):\n        pass",
            "def f(a):\n    return zip(a, a)",
            "def f(a):\n    b = a.items()", "def f(a):\n    for b in a:\n        a.append(b)",
            "def f(a):\n    for b in a.items():\n        a[b] = 1", "def f(a):\n    return len",
            "def f(a):\n    return sorted(set(a), key=len)", "def f(a):\n    b = range(3)",
        ))
        self.assertEqual(faults_of("def f(a, b):\n    return len(set(a)) != len(set(b) | set(a)) or 1 in set(b)\n"), [])

    def test_errors_and_texts_are_looked_at(self):
        self.assert_found((
            "def f():\n    try:\n        g()\n    except Exception:\n        pass",
            "def f():\n    try:\n        g()\n    except:\n        pass",
            "def f(e):\n    raise e", "x = 'a % b'", "x = '\\x41'", "def f(n):\n    return 2 ** n",
            "def f(a):\n    return f'{a.b}'", "def f(a):\n    return f'{a:3}'", "def f(a):\n    a, b = a",
            "def f(a):\n    a", "def f(a):\n    return list(x=a)", "def f(a):\n    return a.format()",
            "class A:\n    def __init__(self):\n        return None",
        ))

    def test_what_lies_between_files_is_found(self):
        one = "class A:\n    def ask(self):\n        pass\n"
        other = "class B:\n    def __init__(self):\n        self.ask = 1\n"
        self.assertEqual(faults_between({"one": one}), [])
        self.assertNotEqual(faults_between({"one": one, "other": other}), [])
        for sources in (
            {"a": "from widelanes.b import x\ny = 1", "b": "from widelanes.a import y\nx = 1"},
            {"a": "from widelanes.b import y", "b": "from widelanes.c import y", "c": "y = 1"},
            {"a": "def f(x):\n    return x.title()"},
            {"a": "class A:\n    def __init__(self):\n        self.values = 1"},
            {"a": "class A:\n    def encode(self):\n        pass"},
        ):
            self.assertNotEqual(faults_between(sources), [], sources)


if __name__ == "__main__":
    unittest.main()

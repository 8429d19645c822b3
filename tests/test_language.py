"""The package's files keep to LANGUAGE.md, as far as that can be seen without running them."""

import ast
import re
import unittest
from pathlib import Path

from tests.language import faults

PACKAGE = Path(__file__).resolve().parent.parent / "riverloops"

# Code that each rule sends back.
SENT_BACK = [
    ("L2", "from .errors import NoArcs"),
    ("L2", "from itertools import product"),
    ("L2", "from riverloops.errors import *"),
    ("L6/L7", "import riverloops.errors"),
    ("L3", "print(1)"),
    ("L3", "'''One.'''\n'''Two.'''"),
    ("L4", "def f(*args):\n    return args"),
    ("L4", "def f(a, *, b):\n    return a"),
    ("L4", "def g():\n    return 1\n\n\ndef f(a=g()):\n    return a"),
    ("L5", "class A:\n    b = 1"),
    ("L6/L7", "def f(a):\n    with a:\n        pass"),
    ("L6/L7", "def f(a):\n    assert a"),
    ("L6", "def f():\n    a = b = 1\n    return a + b"),
    ("L6", "def f():\n    '''Says something.'''\n    return 1"),
    ("L6", "def f(a):\n    for b in a:\n        pass\n    else:\n        return 1"),
    ("L6/L7", "def f(a):\n    return a / 2"),
    ("L6/L7", "def f(a):\n    return any(b for b in a)"),
    ("L6/L7", "def f(a):\n    return {b: 1 for b in a}"),
    ("L7", "def f(a):\n    return [c for b in a for c in b]"),
    ("L7", "def f(a):\n    return f'{a + 1}'"),
    ("L7", "A = 1.5"),
    ("L8", "def f(a):\n    return map(a, a)"),
    ("L8", "def f(a):\n    print(a)"),
    ("L8/L15", "def f(sum):\n    return sum"),
    ("L10", "A = '" + "a" * 120 + "'"),
    ("L10", "def f():\n" + "    a = 1\n" * 40),
    ("L12", "def f(a):\n    return [1 for _ in a]"),
    ("L14", "A = 1  # \u00e4"),
    ("L14", "A = 1\t"),
    ("L15", "A = 1\nA = 2"),
    ("L15", "def f():\n    class A:\n        pass\n    return A()"),
    ("L15", "from riverloops.errors import NoArcs\n\n\ndef f(NoArcs):\n    return 1"),
    ("L17", "def f(a):\n    return type(a)"),
    ("L17", "A = 1  # a type of thing"),
    ("L17", "def f(a):\n    return chr(a)"),
    ("L19", "def f(a):\n    try:\n        return a[0]\n    except Exception:\n        return 1"),
    ("L20", "def f(a):\n    return a is 1"),
    ("L21", "def f(a) -> int:\n    return a"),
    ("L22", "def f(a):\n    return g(len, a)"),
    ("L23", "def f(a):\n    b = range(a)\n    return b"),
    ("L24", "def f():\n    return {1, 2}"),
    ("L25", "def f(a):\n    a.sort()"),
    ("L27", "def f(a):\n    return 2 ** a"),
    ("L27", "A = '%'"),
]


class TestLanguage(unittest.TestCase):
    def test_every_file(self):
        for path in sorted(PACKAGE.rglob("*.py")):
            with self.subTest(path.name):
                self.assertEqual(faults(path.read_bytes().decode("utf-8"), PACKAGE.name), [])

    def test_only_files_with_plain_names_lie_there(self):
        for path in PACKAGE.rglob("*"):
            if "__pycache__" not in path.parts:
                self.assertTrue(path.is_file(), path)
                self.assertRegex(path.name, re.compile(r"\A([a-z][a-z0-9_]*|__init__)\.py\Z"))
        self.assertTrue((PACKAGE / "__init__.py").is_file())

    def test_init_draws_from_no_file(self):
        body = ast.parse((PACKAGE / "__init__.py").read_text()).body
        self.assertEqual([type(node) for node in body], [ast.Expr])

    def test_each_name_is_drawn_from_the_file_that_defines_it_and_no_two_files_from_one_another(self):
        defines, draws = {}, {}
        for path in PACKAGE.glob("*.py"):
            body = ast.parse(path.read_text()).body
            named = [node.name for node in body if isinstance(node, (ast.FunctionDef, ast.ClassDef))]
            given = [node.targets[0].id for node in body if isinstance(node, ast.Assign)]
            defines[f"{PACKAGE.name}.{path.stem}"] = named + given
            draws[f"{PACKAGE.name}.{path.stem}"] = [node for node in body if isinstance(node, ast.ImportFrom)]
        for nodes in draws.values():
            for node in nodes:
                for alias in node.names:
                    self.assertIn(alias.name, defines[node.module])
        # Files that draw from none that is left are taken away: were two to draw from one another, they would stay.
        left = {name: {node.module for node in nodes} for name, nodes in draws.items()}
        while any(not drawn & set(left) for drawn in left.values()):
            left = {name: drawn for name, drawn in left.items() if drawn & set(left)}
        self.assertEqual(left, {})

    def test_the_rules_are_seen(self):
        for rule, text in SENT_BACK:
            with self.subTest(rule=rule, text=text):
                self.assertIn(rule, [fault.split(" ")[0] for fault in faults(text, "riverloops")])

    def test_plain_code_is_let_through(self):
        text = (PACKAGE / "arcs.py").read_text() + "\n\ndef more(a):\n    return [b for b in a if b > 0]\n"
        self.assertEqual(faults(text, "riverloops"), [])


if __name__ == "__main__":
    unittest.main()

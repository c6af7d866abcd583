"""The files of the package follow the rules that a script can look at, and the script sees what breaks them."""

import ast
import os
import unittest

from tests import language_rules as rules
from tests.purity_rules import purity_rules

FOLDER = os.path.join(os.path.dirname(os.path.dirname(os.path.abspath(__file__))), rules.PACKAGE)


def sources():
    found = {}
    for name in sorted(os.listdir(FOLDER)):
        if name != "__pycache__":
            with open(os.path.join(FOLDER, name), encoding="utf-8") as file:
                found[name] = file.read()
    return found


def defined_in(files):
    found = {}
    for name, source in files.items():
        body = ast.parse(source).body
        names = {node.name for node in body if isinstance(node, (ast.FunctionDef, ast.ClassDef))}
        names |= {node.targets[0].id for node in body if isinstance(node, ast.Assign)}
        found[f"{rules.PACKAGE}.{name[:-3]}"] = names
    return found


class LanguageTest(unittest.TestCase):

    def test_package_follows_the_rules(self):
        files = sources()
        self.assertLessEqual(len(files), 100)
        self.assertIn("__init__.py", files)
        defined = defined_in(files)
        for name, source in files.items():
            self.assertEqual(rules.one_file_rules(name, source, defined), [])
        self.assertEqual(rules.cycle_rules(files), [])
        self.assertEqual(rules.shared_name_rules(files), [])
        self.assertEqual(purity_rules(files), [])

    def test_generators_and_class_methods_have_names_of_their_own(self):
        seen = {}
        for name, source in sources().items():
            for node in ast.walk(ast.parse(source)):
                if isinstance(node, ast.FunctionDef):
                    yields = any(isinstance(part, (ast.Yield, ast.YieldFrom)) for part in ast.walk(node))
                    seen.setdefault(node.name, set()).add(yields)
        self.assertEqual([name for name, kinds in seen.items() if len(kinds) > 1], [])

    def test_script_sees_what_breaks_a_rule(self):
        bad = ["import os\n", "x = 1\nx = 2\n", "def f(a):\n    return a / 2\n", "def f(id):\n    return id\n",
               "def f(xs):\n    return any(x for x in xs)\n", "def f(xs):\n    for x in xs:\n        xs.append(x)\n",
               "def f(xs):\n    rows = {x for x in xs}\n    return rows\n", "def f():\n    return 'a%b'\n",
               "def f(a, b):\n    return a is b\n", "def f(xs):\n    return xs.sort()\n", "x = '" + "a" * 130 + "'\n",
               "def f(xs):\n    return print(xs)\n", "from streamwrights.words import nothing\n", "\u00e4 = 1\n",
               "def f():\n" + "    f()\n" * 40, "f = 0\n" * 400,
               "def f(xs):\n    rows = zip(xs, xs)\n    return rows\n",
               "def f(one):\n    return {*one}\n", "def f(kind='type'):\n    return kind\n",
               "class A:\n    def __len__(self):\n        return self.size\n"]
        for source in bad:
            self.assertNotEqual(rules.one_file_rules("some.py", source, {"streamwrights.words": set()}), [], source)
        self.assertNotEqual(rules.one_file_rules("filter.py", "A = 1\n", {}), [])
        self.assertNotEqual(rules.cycle_rules({"a.py": "from streamwrights.b import c\n",
                                               "b.py": "from streamwrights.a import d\n"}), [])

    def test_script_sees_shared_names(self):
        one = "class A:\n    def n(self):\n        return 1\n"
        other = "class B:\n    def __init__(self):\n        self.n = 1\n"
        self.assertEqual(rules.shared_name_rules({"a.py": one}), [])
        self.assertNotEqual(rules.shared_name_rules({"a.py": one, "b.py": other}), [])

    def test_script_sees_what_operators_may_not_change(self):
        bad = ["class A:\n    def __add__(self, other):\n        self.n = 1\n        return self\n",
               "class A:\n    def __or__(self, other):\n        return f(other)\n\n\ndef f(xs):\n    xs.append(1)\n",
               "class A:\n    @property\n    def n(self):\n        rows = {k: 1 for k in self.m}\n        rows[1] = 2\n"
               "        return rows\n",
               "class A:\n    def __sub__(self, other):\n        rows = [[]]\n        rows[0].append(1)\n"
               "        return rows\n"]
        for source in bad:
            self.assertNotEqual(purity_rules({"some.py": source}), [], source)
        good = ("class A:\n    def __and__(self, other):\n        rows = []\n        rows.append(1)\n"
                "        return rows\n")
        self.assertEqual(purity_rules({"some.py": good}), [])


if __name__ == "__main__":
    unittest.main()

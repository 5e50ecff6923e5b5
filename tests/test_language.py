import ast
import os
import unittest

import keelbond
from language import circles, faults_of, file_faults, own_methods, twofold_names

FOLDER = os.path.dirname(os.path.abspath(keelbond.__file__))


def sources():
    """The texts of the package's files by name; the folder that Python itself lays there is none of them."""
    told = {}
    for name in sorted(os.listdir(FOLDER)):
        if name != "__pycache__":
            with open(os.path.join(FOLDER, name), encoding="utf-8", newline="") as file:
                told[name] = file.read()
    return told


def rules(source):
    return sorted({rule for rule, row in faults_of(source)})


class Package(unittest.TestCase):
    def test_the_files_are_there(self):
        for name in ["__init__.py", "errors.py", "parts.py", "touch.py", "level.py", "share.py", "table.py", "paper.py",
                     "ranks.py", "ship.py", "deeds.py", "book.py", "sheet.py", "desk.py"]:
            self.assertIn(name, sources())

    def test_names_of_files(self):
        for name in sources():
            self.assertEqual(file_faults(name), [], name)

    def test_no_file_is_outside_the_language(self):
        own = own_methods([ast.parse(text) for text in sources().values()])
        for name, text in sources().items():
            self.assertEqual(faults_of(text, own), [], name)

    def test_no_name_is_a_value_and_a_method(self):
        self.assertEqual(twofold_names([ast.parse(text) for text in sources().values()]), [])

    def test_no_file_draws_from_itself(self):
        trees = {name.partition(".")[0]: ast.parse(text) for name, text in sources().items()}
        self.assertEqual(circles(trees), [])


class Checker(unittest.TestCase):
    """The checker sees what it looks for: a checker that sees nothing would pass every file."""

    def test_plain_code_has_no_fault(self):
        self.assertEqual(rules('"""Why."""\n\nMANY = 3\n\n\ndef f(x):\n    return [y for y in x if y > MANY]\n'), [])

    def test_each_rule(self):
        for rule, source in [
            ("L2", "from math import gcd\n"),
            ("L2", "from .errors import BadPart\n"),
            ("L3", "print(1)\n"),
            ("L3", "x = [y for y in (1, 2)]\n"),
            ("L4", "def f(*rest):\n    return rest\n"),
            ("L5", "class A:\n    x = 1\n"),
            ("L5", "class A:\n    def __add__(self, x):\n        return x\n"),
            ("L6", "def f(x):\n    assert x\n"),
            ("L6", "def f(x):\n    a = b = x\n    return a + b\n"),
            ("L6", "def f(x):\n    for y in x:\n        pass\n    else:\n        return 1\n"),
            ("L6", "def f(x):\n    'what it does'\n    return x\n"),
            ("L7", "def f(x):\n    return x / 2\n"),
            ("L7", "def f(x):\n    return 1.5\n"),
            ("L7", "def f(x):\n    return sum(y for y in x)\n"),
            ("L7", "def f(x):\n    return f'{x:3}'\n"),
            ("L8", "def f(x):\n    return pow(x, 2)\n"),
            ("L8", "def f(x):\n    return chr(x)\n"),
            ("L10", "def f(x):\n" + "    x += 1\n" * 40),
            ("L10", "x = 1" + " " * 120 + "\n"),
            ("L12", "def f(_x):\n    return 1\n"),
            ("L14", "x = 1\t\n"),
            ("L15", "x = 1\nx = 2\n"),
            ("L15", "def f(sum):\n    return sum\n"),
            ("L15", "from keelbond.table import table\n\n\ndef f(table):\n    return table\n"),
            ("L15", "class A:\n    pass\n\n\ndef f(x):\n    A = x\n    return A\n"),
            ("L16", "import sys\n"),
            ("L17", "# a type\n"),
            ("L18", "class A:\n    def a(self):\n        return 1\n\n    def a(self):\n        return 2\n"),
            ("L19", "def f(x):\n    try:\n        return x()\n    except Exception:\n        return 1\n"),
            ("L20", "def f(x):\n    return x is 1000\n"),
            ("L23", "def f(x):\n    return reversed(range(x))\n"),
            ("L25", "def f(x):\n    x.sort()\n"),
            ("L27", "def f(x):\n    return 2 ** x\n"),
        ]:
            with self.subTest(source):
                self.assertIn(rule, rules(source))

    def test_files(self):
        for name in ["Parts.py", "parts.txt", "tests.py", "test_parts.py", "sum.py", "typing.py", "notes"]:
            self.assertEqual(file_faults(name), [("L14", 0)], name)

    def test_twofold_names(self):
        one = "class A:\n    def day(self):\n        return 1\n\n    def due(self):\n        return 2\n"
        other = "def give(x):\n    x.day = 1\n    x.keys = 2\n    x.count = 3\n"
        self.assertEqual(twofold_names([ast.parse(one), ast.parse(other)]), ["day", "keys"])
        self.assertEqual(twofold_names([ast.parse(one)]), [])

    def test_circles(self):
        trees = {"a": "from keelbond.b import x", "b": "from keelbond.c import x", "c": "from keelbond.a import x",
                 "d": "from keelbond.a import x"}
        self.assertEqual(circles({name: ast.parse(text) for name, text in trees.items()}), ["a", "b", "c"])


if __name__ == "__main__":
    unittest.main()

"""Tests that the package keeps to the rules of LANGUAGE.md that a program can check."""

import pathlib
import unittest

from tests.language_rules import PACKAGE, find_breaks

FOLDER = pathlib.Path(__file__).resolve().parents[1] / PACKAGE

# A class that can be compared: then some other rules are narrower.
EQUAL = "class Box:\n    def __eq__(self, other):\n        return isinstance(other, Box)\n"

# A rule, and a file that breaks it.
BROKEN = (
    ("L2 place", "A = 1\nfrom renamesteps.good import work\n"),
    ("L2 source", "from os import path\n"),
    ("L2 source", "from .good import work\n"),
    ("L16 form", "import sys\n"),
    ("L16 definer", "from renamesteps.good import missing\n"),
    ("L16 circle", "from renamesteps.bad import work\n\n\ndef work():\n    return 1\n"),
    ("L3 statement", "work()\n"),
    ("L3 statement", "a = b = 1\n"),
    ("L3 value", "SEEN = set()\n"),
    ("L4 parameters", "def work(a, /):\n    return a\n"),
    ("L6 L7 barred", "def work(a):\n    return a / 2\n"),
    ("L7 float", "HALF = 0.5\n"),
    ("L8 builtin", "def work(a):\n    return map(a, a)\n"),
    ("L10 function", "def work(a):\n" + "    a += 1\n" * 40),
    ("L10 file", "A = 1\n" + "\n" * 400),
    ("L10 line", "A = 1" + " " * 116 + "\n"),
    ("L12", "def work(a):\n    for _ in a:\n        pass\n"),
    ("L12", "def _work(a):\n    return a\n"),
    ("L14 character", "# \u00e4\n"),
    ("L14 character", "def work():\n\treturn 1\n"),
    ("L15 bound twice", "A = 1\nA = 2\n"),
    ("L15 hidden", "def work(min):\n    return min\n"),
    ("L15 hidden", "from renamesteps.good import work\n\n\ndef play(a):\n    work = a\n    return work\n"),
    ("L17 name", "def work(a):\n    return a.elements\n"),
    ("L17 word", "# the type of it\n"),
    ("L19 raise", "def work(a):\n    raise a\n"),
    ("L19 handler", "def work(a):\n    try:\n        return a\n    except Exception:\n        return 1\n"),
    ("L19 handler", "def work(a):\n    try:\n        return a\n    except:\n        return 1\n"),
    ("L4 default", "def work(a, b=[]):\n    return a\n"),
    ("L4 default", "def work(a, *, b={}):\n    return a\n"),
    ("L4 L6 L21 not needed", "def work(a):\n    b: int = a\n    return b\n"),
    ("L5 method", "class Box:\n    def __hash__(self):\n        return 1\n"),
    ("L7 generator", "def work(a):\n    b = (c for c in a)\n    return b\n"),
    ("L7 generator", EQUAL + "\n\ndef work(a):\n    return any(c for c in a)\n"),
    ("L18 method and attribute",
     "class Box:\n    def many(self):\n        return 1\n\n\n"
     "class Bag:\n    def __init__(self):\n        self.many = 1\n"),
    ("L18 not assigned", "def work(a):\n    return a.many\n"),
    ("L22 keyword", "def work(a):\n    return a.split(sep=a)\n"),
    ("L23 stored", "def work(a):\n    b = range(a)\n    return b\n"),
    ("L23 stored", "def work(a):\n    return a.items()\n"),
    ("L24 set", "def work(a):\n    return set(a)\n"),
    ("L24 set", "def work(a):\n    return [b for b in {c for c in a}]\n"),
    ("L26 method", "class Box:\n    def format_map(self):\n        return 1\n"),
    ("L26 attribute", "class Box:\n    def __init__(self):\n        self.items = 1\n"),
    ("L28", "class Box:\n    def __eq__(self, other):\n        other = 1\n        return other == 1\n"),
    ("L20", "def work(a):\n    return a is 1\n"),
    ("L25", "def work(a):\n    return a.isdisjoint(a)\n"),
    ("L27 percent sign", "A = \"5 %\"\n"),
    ("L27 escape", "A = \"\\r\"\n"),
)


class LanguageTest(unittest.TestCase):
    def test_the_package_keeps_to_the_rules(self):
        files = {path.name: path.read_text(encoding="utf-8") for path in FOLDER.glob("*.py")}
        self.assertIn("__init__.py", files)
        self.assertEqual(find_breaks(files), [])

    def test_the_folder_contains_nothing_else(self):
        others = [path.name for path in FOLDER.iterdir() if path.suffix != ".py" and path.name != "__pycache__"]
        self.assertEqual(others, [])

    def test_broken_rules_are_found(self):
        good = "def work(a):\n    return a\n"
        self.assertEqual(find_breaks({"good.py": good}), [])
        for rule, text in BROKEN:
            with self.subTest(rule, text=text):
                self.assertIn(rule, [found for name, _, found in find_breaks({"good.py": good, "bad.py": text})])


if __name__ == "__main__":
    unittest.main()

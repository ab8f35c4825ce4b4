import tempfile
import unittest
from pathlib import Path

import language

PACKAGE = Path(__file__).resolve().parent.parent / "stormpost"


def rules_broken(text, module="signs"):
    modules = {
        "errors": "class BadSign(ValueError):\n    pass\n",
        "cells": "PLACES = 24\n",
        "air": "class Air:\n    def flying(self):\n        return 0\n",
        module: text,
    }
    return sorted({row.split()[0] for row in language.source_findings("stormpost", module, text, modules)})


class PackageTest(unittest.TestCase):
    def test_the_package_keeps_to_the_language(self):
        self.assertEqual(language.findings(PACKAGE), [])


class FindingsTest(unittest.TestCase):
    def test_plain_code_has_none(self):
        text = (
            '"""Words."""\n\nfrom stormpost.errors import BadSign\n\nMANY = (1, 2)\n\n\n'
            "def told(a, b=1):\n    if a is None:\n        raise BadSign(f\"{a!r} is none\")\n"
            "    return [x * 2 ** 3 for x in sorted(a) if x != b]\n"
        )
        self.assertEqual(rules_broken(text), [])

    def test_each_row_breaks_its_rule(self):
        for rule, text in (
            ("L2", "from math import gcd\n"),
            ("L2", "from .errors import BadSign\n"),
            ("L3", "X = len([1])\n"),
            ("L3", "print\n"),
            ("L4", "def f(*a):\n    return a\n"),
            ("L5", "class C:\n    x = 1\n"),
            ("L6", "import math\n"),
            ("L6", "def f():\n    a = b = 1\n    return a + b\n"),
            ("L6", "def f(a):\n    yield a\n"),
            ("L7", "def f(a):\n    return a / 2\n"),
            ("L7", "X = 1.5\n"),
            ("L7", "def f(a):\n    return {x: x for x in a}\n"),
            ("L8", "def f(a):\n    return chr(a)\n"),
            ("L8", "def f(a):\n    return pow(a, 2)\n"),
            ("L10", "X = 1\n" * 401),
            ("L10", "def f(a):\n" + "    a = 1\n" * 40),
            ("L10", "# " + "a" * 120 + "\n"),
            ("L12", "def _f(a):\n    return a\n"),
            ("L14", "# \u00e4\n"),
            ("L14", "X = 1  # \t\n"),
            ("L15", "X = 1\nX = 2\n"),
            ("L15", "X = [[1]]\n"),
            ("L15", "def f(id):\n    return id\n"),
            ("L15", "class C:\n    pass\n\n\ndef f(C):\n    return C\n"),
            ("L15", "from stormpost.errors import BadSign\n\n\ndef f():\n    BadSign = 1\n    return BadSign\n"),
            ("L16", "from stormpost.errors import BadCell\n"),
            ("L16", "from stormpost.cells import PLACES\n"),
            ("L17", "# its type\n"),
            ("L18", "class C:\n    def a(self):\n        self.a = 1\n"),
            ("L18", "class C:\n    def a(self):\n        self.flying = 1\n"),
            ("L19", "def f(a):\n    try:\n        return a\n    except Exception:\n        return 1\n"),
            ("L20", "def f(a, b):\n    return a is b\n"),
            ("L21", "def f(a: int):\n    return a\n"),
            ("L25", "def f(a):\n    a.sort()\n"),
            ("L26", "class C:\n    def f(self):\n        self.args = 1\n"),
            ("L27", "X = 'a%'\n"),
            ("L27", "X = '\\x41'\n"),
            ("L27", "def f(n):\n    return 2 ** n\n"),
        ):
            with self.subTest(rule=rule, text=text):
                self.assertIn(rule, rules_broken(text))

    def test_other_files_in_the_package(self):
        with tempfile.TemporaryDirectory() as top:
            folder = Path(top) / "stormpost"
            folder.mkdir()
            self.assertTrue(any(row.startswith("L14") for row in language.findings(folder)))
            (folder / "__init__.py").write_text("")
            self.assertEqual(language.findings(folder), [])
            (folder / "notes.txt").write_text("")
            (folder / "test_signs.py").write_text("")
            self.assertEqual([row.split()[0] for row in language.findings(folder)], ["L1", "L14"])


if __name__ == "__main__":
    unittest.main()

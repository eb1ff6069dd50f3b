"""The package keeps to its part of Python."""

import tempfile
import unittest
from pathlib import Path

import language


def findings(text):
    with tempfile.TemporaryDirectory() as folder:
        path = Path(folder) / "sample.py"
        path.write_text(text, encoding="utf-8")
        return language.look(path)


class LanguageTest(unittest.TestCase):
    def test_files_keep_to_the_rules(self):
        for path in sorted(language.PACKAGE.glob("*.py")):
            with self.subTest(file=path.name):
                self.assertEqual(language.look(path), [])

    def test_the_folder_keeps_to_the_rules(self):
        self.assertEqual(language.look_at_folder(), [])
        self.assertEqual(language.look_at_imports(), [])
        self.assertEqual(language.look_at_circles(), [])
        self.assertEqual(language.look_at_classes(), [])

    def test_what_is_outside_is_found(self):
        for rule, text in (
            ("L6", "import math\n"),
            ("L2", "from fractions import Fraction\n"),
            ("L3", "print(1)\n"),
            ("L4", "def f(*parts):\n    return parts\n"),
            ("L5", "class A:\n    count = 1\n"),
            ("L6", "def f(a):\n    assert a\n"),
            ("L6", "def f(a):\n    'why'\n    return a\n"),
            ("L6", "def f(a):\n    b = c = a\n    return b + c\n"),
            ("L7", "def f(a):\n    return a / 2\n"),
            ("L7", "def f(a):\n    return 1.5\n"),
            ("L7", "def f(a):\n    return sum(b for b in a)\n"),
            ("L8", "def f(a):\n    return pow(a, 2)\n"),
            ("L10", "def f(a):\n" + "    a = a + 1\n" * 40 + "    return a\n"),
            ("L12", "def f(_a):\n    return _a\n"),
            ("L14", "# \u00e9\n"),
            ("L15", "def f(id):\n    return id\n"),
            ("L17", "# the type of it\n"),
            ("L19", "def f(a):\n    raise ValueError\n"),
            ("L20", "def f(a, b):\n    return a is b\n"),
            ("L21", "def f(a: int):\n    return a\n"),
            ("L23", "def f(a):\n    b = range(a)\n    return b\n"),
            ("L24", "def f(a):\n    return set(a)\n"),
            ("L25", "def f(a):\n    a.sort()\n    return a\n"),
            ("L27", "def f(a):\n    return 2 ** a\n"),
            ("L27", "def f(a):\n    return '%'\n"),
        ):
            with self.subTest(rule=rule, text=text):
                self.assertTrue(any(f" {rule} " in row for row in findings(text)))


if __name__ == "__main__":
    unittest.main()

"""The package keeps to its part of the language, as far as a machine can see it."""

import pathlib
import unittest

import form

PACKAGE = pathlib.Path(__file__).resolve().parent.parent / "lapwork"


def sources():
    return [path for path in sorted(PACKAGE.iterdir()) if path.name != "__pycache__"]


class PackageForm(unittest.TestCase):
    def test_file_names(self):
        for path in sources():
            self.assertTrue(path.is_file() and path.suffix == ".py", path.name)
            self.assertTrue(form.file_name_is_fit(path.name), path.name)

    def test_each_file(self):
        for path in sources():
            with self.subTest(file=path.name):
                self.assertEqual(form.faults(path.read_text(encoding="utf-8")), [])

    def test_all_files_together(self):
        texts = {"lapwork." + path.stem: path.read_text(encoding="utf-8") for path in sources()}
        self.assertEqual(form.package_faults(texts), [])


class TheLookItself(unittest.TestCase):
    def rules(self, text):
        return {rule for rule, line in form.faults(text)}

    def test_what_is_outside_the_rules_is_seen(self):
        cases = [
            ("L16", "import json\n"), ("L2", "from os import path\n"), ("L2", "from lapwork.errors import *\n"),
            ("L3", "X = 10 ** 60\n"), ("L3", "print(1)\n"), ("L4", "def f(*a):\n    return 1\n"),
            ("L5", "class A:\n    x = 1\n"), ("L6", "def f():\n    assert True\n"), ("L6", "def f():\n    a = b = 1\n"),
            ("L7", "def f(a):\n    return a / 2\n"), ("L7", "def f(a):\n    return 0.5\n"),
            ("L7", "def f(a):\n    return {k: k for k in a}\n"), ("L8", "def f(a):\n    return hash(a)\n"),
            ("L10", "def f():\n" + "    pass\n" * 40), ("L10", "# " + "a" * 120 + "\n"), ("L12", "def f(_a):\n    pass\n"),
            ("L14", "# \u00e9\n"), ("L14", "X\t= 1\n"), ("L15", "X = 1\nX = 2\n"),
            ("L15", "def f(sum):\n    pass\n"), ("L17", "# a type\n"),
            ("L18", "class A:\n" + "    def f(self):\n        pass\n" * 2),
            ("L19", "def f():\n    try:\n        pass\n    except Exception:\n        pass\n"),
            ("L20", "def f(a):\n    return a is 3\n"), ("L25", "def f(a):\n    a.sort()\n"),
            ("L6", "def f(p):\n    a, b = p\n    return a + b\n"), ("L21", "def f(a: int):\n    return a\n"),
            ("L21", "def f(a) -> int:\n    return a\n"), ("L22", "def f(a):\n    return a.get(1, default=2)\n"),
            ("L22", "def f(a):\n    return int(a, base=2)\n"), ("L23", "def f(a):\n    b = zip(a, a)\n    return b\n"),
            ("L23", "def f(a):\n    return a.items()\n"), ("L23", "def f(a):\n    return max(range(a), 3)\n"),
            ("L24", "def f(a):\n    b = set(a)\n    return b\n"), ("L24", "def f(a):\n    return a == {1}\n"),
            ("L23", "def f(a):\n    for b in a:\n        a.append(b)\n"),
            ("L23", "def f(a):\n    for b, c in enumerate(a):\n        a[b] = c\n"),
            ("L23", "def f(a):\n    for b, c in a.items():\n        if c:\n            a.pop(b)\n"),
            ("L23", "def f(a):\n    for b, c in zip(a.rows, a.starts):\n        a.starts[b] = c\n"),
            ("L27", "X = 'a % b'\n"), ("L27", "def f(a):\n    return 2 ** a\n"),
        ]
        for rule, text in cases:
            with self.subTest(rule=rule, text=text):
                self.assertIn(rule, self.rules(text))

    def test_what_is_within_the_rules_is_let_by(self):
        cases = [
            "def f(a):\n    return [b for b, c in zip(a, range(3))]\n", "def f(a):\n    return list(a.items())\n",
            "def f(a):\n    return max(range(a))\n", "def f(a):\n    return sorted(a.keys(), key=len, reverse=True)\n",
            "def f(a):\n    for b, c in enumerate(a, start=1):\n        return b + c\n",
            "def f(a):\n    for b in list(a):\n        a.pop(b)\n", "def f(a, c):\n    for b in c:\n        a.append(b)\n",
            "def f(a):\n    for b in range(len(a)):\n        a[b] = 1\n",
            "def f(a):\n    return ', '.join(reversed(a))\n", "def f(a):\n    return dict(zip(a, a))\n",
        ]
        for text in cases:
            with self.subTest(text=text):
                self.assertEqual(form.faults(text), [])

    def test_what_spans_files_is_seen(self):
        ring = {"lapwork.a": "from lapwork.b import f\n\ndef g():\n    pass\n",
                "lapwork.b": "from lapwork.a import g\n\ndef f():\n    pass\n"}
        self.assertIn(("L16", "lapwork.a"), form.package_faults(ring))
        through = {"lapwork.a": "from lapwork.b import f\n", "lapwork.b": "from lapwork.c import f\n",
                   "lapwork.c": "def f():\n    pass\n"}
        self.assertEqual(form.package_faults(through), [("L16", "lapwork.a")])
        mixed = {"lapwork.a": "class A:\n    def rows(self):\n        pass\n",
                 "lapwork.b": "class B:\n    def __init__(self):\n        self.rows = 1\n"}
        self.assertEqual(form.package_faults(mixed), [("L18", "rows")])


if __name__ == "__main__":
    unittest.main()

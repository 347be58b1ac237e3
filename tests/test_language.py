"""The package's files keep to LANGUAGE.md, as far as a look at the files can tell."""

import ast
import re
import unittest
from pathlib import Path

from tests.language import PACKAGE, faults_between, faults_of, methods_of

FOLDER = Path(__file__).resolve().parent.parent / PACKAGE

# Each rule's number with a text that breaks it.
BROKEN = (
    ("L2", "from os import path\n"),
    ("L2", "from .errors import BadCamp\n"),
    ("L3", "print(1)\n"),
    ("L3", "for k in (1, 2):\n    pass\n"),
    ("L4", "def f(*a):\n    return a\n"),
    ("L5", "class A:\n    b = 1\n"),
    ("L6", "def f(x):\n    assert x\n"),
    ("L6", "def f(x):\n    with x:\n        pass\n"),
    ("L6", "def f(x):\n    a = b = x\n    return a\n"),
    ("L6", "def f(xs):\n    for x in xs:\n        pass\n    else:\n        pass\n"),
    ("L7", "def f(x):\n    return x / 2\n"),
    ("L7", "def f(x):\n    return x + 0.5\n"),
    ("L7", "def f(xs):\n    return any(x for x in xs)\n"),
    ("L8", "def f(x):\n    return hash(x)\n"),
    ("L8", "def f(x):\n    return chr(x)\n"),
    ("L10", "def f(x):\n" + "    x = x + 1\n" * 40),
    ("L10", "A = 1  # " + "a" * 120 + "\n"),
    ("L12", "def f(_x):\n    return 1\n"),
    ("L14", "A = 1\t\n"),
    ("L15", "def f(id):\n    return 1\n"),
    ("L15", "A = 1\nA = 2\n"),
    ("L17", "A = 1  # a type\n"),
    ("L17", "def f(x):\n    return x.open\n"),
    ("L18", "class A:\n    def f(self):\n        pass\n\n    def f(self):\n        pass\n"),
    ("L20", "def f(x, y):\n    return x is y\n"),
    ("L21", "def f(x: int):\n    return x\n"),
    ("L25", "def f(xs):\n    xs.sort()\n"),
    ("L26", "class A:\n    def f(self, x):\n        self.items = x\n"),
    ("L27", "A = '%'\n"),
)


def package_texts():
    texts = {}
    for path in sorted(FOLDER.glob("*.py")):
        name = PACKAGE if path.stem == "__init__" else f"{PACKAGE}.{path.stem}"
        texts[name] = path.read_text(encoding="utf-8")
    return texts


class Files(unittest.TestCase):
    def test_only_python_files_with_plain_names(self):
        names = [path.name for path in FOLDER.iterdir() if path.name != "__pycache__"]
        self.assertIn("__init__.py", names)
        for name in names:
            self.assertTrue(re.fullmatch(r"__init__\.py|[a-z][a-z0-9_]*\.py", name), name)

    def test_each_file_keeps_the_rules(self):
        texts = package_texts()
        methods = set().union(*[methods_of(ast.parse(text)) for text in texts.values()])
        for name, text in texts.items():
            with self.subTest(name=name):
                self.assertEqual(faults_of(text, methods), [])

    def test_the_files_together_keep_the_rules(self):
        trees = {name: ast.parse(text) for name, text in package_texts().items()}
        self.assertEqual(faults_between(trees), [])


class TheLookItself(unittest.TestCase):
    def test_a_broken_rule_is_seen(self):
        for rule, text in BROKEN:
            with self.subTest(rule=rule, text=text[:60]):
                seen = " ".join(faults_of(text)).split()
                self.assertIn(rule, seen)

    def test_broken_rules_between_files_are_seen(self):
        def look(texts):
            return " ".join(faults_between({name: ast.parse(text) for name, text in texts.items()}))

        first = "from tentpairs.b import g\n\n\ndef f():\n    return g()\n"
        second = "from tentpairs.a import f\n\n\ndef g():\n    return f()\n"
        self.assertIn("draws from itself", look({"tentpairs.a": first, "tentpairs.b": second}))
        self.assertIn("L16 tentpairs.a: g", look({"tentpairs.a": first, "tentpairs.b": "A = 1\n"}))
        both = "class A:\n    def f(self):\n        pass\n\n\nclass B:\n    def g(self):\n        self.f = 1\n"
        self.assertIn("L18 f", look({"tentpairs.a": both}))


if __name__ == "__main__":
    unittest.main()

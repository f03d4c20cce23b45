import ast
import pathlib
import re
import unittest

from language import faults

PACKAGE = pathlib.Path(__file__).resolve().parent.parent / "surestretch"

# One breach each: were the look-through blind to one, the package could slip out of the rules unseen.
BREACHES = (
    ("L2", "from math import gcd\n"), ("L2", "from surestretch.errors import *\n"),
    ("L2", "from .errors import NoRow\n"), ("L3", "import math\n"), ("L3", "print(1)\n"),
    ("L4", "def f(*xs):\n    return xs\n"), ("L5", "class A:\n    x = 1\n"),
    ("L6", "def f():\n    a = b = 1\n"), ("L6", "def f():\n    a, b = 1, 2\n"), ("L6", "def f(x):\n    assert x\n"),
    ("L6", "def f(xs):\n    for x in xs:\n        pass\n    else:\n        pass\n"),
    ("L6", "def f():\n    return 1 / 2\n"), ("L6", "def f(xs):\n    return {x for x in xs}\n"),
    ("L7", "def f():\n    return 0.5\n"), ("L7", "def f(xs):\n    return [x for x in xs for x in x]\n"),
    ("L7", "def f(x):\n    return f'{x + 1}'\n"), ("L8", "def f(x):\n    return getattr(x, 1)\n"),
    ("L10", "def f():\n" + "    pass\n" * 40), ("L10", "x = 1  # " + "x" * 120 + "\n"), ("L10", "# x\n" * 401),
    ("L12", "def f(_x):\n    return 1\n"), ("L14", "x = '\u00e9'\n"), ("L14", "def f():\n\tpass\n"),
    ("L15", "x = 1\nx = 2\n"), ("L15", "def f(sum):\n    return 1\n"), ("L15", "def f():\n    hash = 1\n"),
    ("L15", "from surestretch.rules import cover\n\n\ndef f(cover):\n    return 1\n"),
    ("L15", "from surestretch.rules import cover\n\n\ndef f():\n    cover = 1\n"),
    ("L15", "class A:\n    pass\n\n\ndef f(xs):\n    return [A for A in xs]\n"),
    ("L17", "def f():\n    # a type\n    pass\n"), ("L17", "def f(x):\n    return x.__class__\n"),
    ("L19", "def f():\n    try:\n        pass\n    except Exception:\n        pass\n"),
    ("L20", "def f(x, y):\n    return x is y\n"), ("L25", "def f(xs):\n    xs.sort()\n"),
    ("L23", "def f(n):\n    xs = range(n)\n    return xs\n"), ("L23", "def f(d):\n    return len(d.items())\n"),
    ("L23", "def f(n):\n    return list(reversed(range(n)))\n"),
    ("L23", "def f(xs, n):\n    return list(zip(xs, range(n)))\n"),
    ("L27", "def f(x, n):\n    return x ** n\n"), ("L27", "x = 'a % b'\n"),
)


def sources():
    return sorted(PACKAGE.rglob("*.py"))


def drawn_from(path):
    rows = [node for node in ast.parse(path.read_text()).body if isinstance(node, ast.ImportFrom)]
    return {node.module.split(".")[1]: [alias.name for alias in node.names] for node in rows}


def defined_in(path):
    body = ast.parse(path.read_text()).body
    names = [node.name for node in body if isinstance(node, (ast.FunctionDef, ast.ClassDef))]
    return names + [node.targets[0].id for node in body if isinstance(node, ast.Assign)]


class Language(unittest.TestCase):
    def test_the_package_keeps_to_the_rules(self):
        self.assertTrue(sources())
        for path in sources():
            with self.subTest(path.name):
                self.assertEqual(faults(path.read_text(encoding="utf-8")), [])

    def test_the_look_through_sees_breaches(self):
        for rule, text in BREACHES:
            with self.subTest(text):
                self.assertTrue(any(fault.startswith(rule) for fault in faults(text)), faults(text))

    def test_only_plainly_named_py_files_lie_in_the_package(self):
        self.assertTrue((PACKAGE / "__init__.py").is_file())
        for path in PACKAGE.rglob("*"):
            if "__pycache__" not in path.parts:
                with self.subTest(path.name):
                    self.assertRegex(path.name, re.compile(r"^(__init__|__main__|[a-z][a-z0-9_]*)\.py$"))

    def test_names_are_drawn_from_the_file_that_defines_them(self):
        for path in sources():
            for module, names in drawn_from(path).items():
                with self.subTest(path=path.name, module=module):
                    self.assertLessEqual(set(names), set(defined_in(PACKAGE / f"{module}.py")))

    def test_no_two_files_draw_from_one_another(self):
        waiting = {path.stem: set(drawn_from(path)) for path in sources()}
        while waiting:
            free = [stem for stem, others in waiting.items() if not others & set(waiting)]
            self.assertTrue(free, f"a ring among {sorted(waiting)}")
            waiting = {stem: others for stem, others in waiting.items() if stem not in free}


if __name__ == "__main__":
    unittest.main()

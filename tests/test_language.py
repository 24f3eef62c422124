"""The form: the package keeps to LANGUAGE.md, and the reader that looks for faults finds them."""

import pathlib
import unittest

from language import PACKAGE, faults

ROOT = pathlib.Path(__file__).resolve().parent.parent
FOLDER = ROOT / PACKAGE

# A fault of each rule that can be seen in a file, as the one file of a package.
SAMPLES = [
    ("L2", "import viewkeep.cells\n"),
    ("L2", "from .cells import cut\n"),
    ("L2", "from math import gcd\n"),
    ("L3", "print_it = [cell for cell in (1, 2)]\n"),
    ("L3", "if True:\n    x = 1\n"),
    ("L4", "def f(*xs):\n    return xs\n"),
    ("L4", "def f(**xs):\n    return xs\n"),
    ("L4", "def f(*, x):\n    return x\n"),
    ("L4", "def g(f):\n    return f\n\n\n@g\ndef f(x):\n    return x\n"),
    ("L5", "class C:\n    x = 1\n"),
    ("L5", "class C(ValueError, KeyError):\n    pass\n"),
    ("L6", "def f(x):\n    assert x\n"),
    ("L6", "def f(x):\n    with x:\n        pass\n"),
    ("L6", "def f(x):\n    a = b = x\n    return a + b\n"),
    ("L6", "def f(x):\n    for y in x:\n        pass\n    else:\n        return 1\n"),
    ("L6", "def f(x):\n    try:\n        return x\n    finally:\n        pass\n"),
    ("L6", "def f(x):\n    \"a text by itself\"\n    return x\n"),
    ("L6", "def f(x, k):\n    del x[k]\n"),
    ("L7", "def f(x):\n    return x / 2\n"),
    ("L7", "def f(x):\n    return 1.5\n"),
    ("L7", "def f(x):\n    return b'x'\n"),
    ("L7", "def f(x):\n    return {y: 1 for y in x}\n"),
    ("L7", "def f(x):\n    return all(y for y in x)\n"),
    ("L7", "def f(x):\n    return [y for z in x for y in z]\n"),
    ("L7", "def f(x):\n    if (y := x):\n        return y\n"),
    ("L7", "def f(x):\n    return [*x]\n"),
    ("L7", "def f(x):\n    return f'{x:3}'\n"),
    ("L8", "def f(x):\n    return iter(x)\n"),
    ("L10", "x = 1" + " " * 116 + "\n"),
    ("L10", "x = (\n" + "    1,\n" * 400 + ")\n"),
    ("L10", "def f(x):\n" + "    x = x + 1\n" * 40),
    ("L12", "def f(x):\n    _y = x\n    return _y\n"),
    ("L12", "def _f(x):\n    return x\n"),
    ("L14", "x = '\u00e9'\n"),
    ("L14", "x = 1\t\n"),
    ("L15", "x = 1\nx = 2\n"),
    ("L15", "x = [[1]]\n"),
    ("L15", "def f(id):\n    return 1\n"),
    ("L15", "def f(x):\n    sum = x\n    return 1\n"),
    ("L15", "class C:\n    pass\n\n\ndef f(C):\n    return 1\n"),
    ("L17", "def f(x):\n    return getattr(x, 'y')\n"),
    ("L17", "# a type\n"),
    ("L18", "class C:\n    def f(self):\n        return 1\n\n    def f(self):\n        return 2\n"),
    ("L18", "class C:\n    def f(self):\n        self.f = 1\n"),
    ("L18", "class C:\n    def f(self):\n        return 1\n\n\nclass D:\n    def g(self):\n        self.f = 1\n"),
    ("L26", "class C:\n    def __init__(self):\n        self.values = 1\n"),
    ("L26", "class C:\n    def encode(self):\n        return 1\n"),
    ("L19", "def f(x):\n    try:\n        return x[0]\n    except Exception:\n        return 1\n"),
    ("L19", "def f(x):\n    try:\n        return x[0]\n    except:\n        return 1\n"),
    ("L20", "def f(x, y):\n    return x is y\n"),
    ("L21", "def f(x: int):\n    return x\n"),
    ("L22", "def f(x):\n    return int('1', base=2)\n"),
    ("L22", "def f(x):\n    g = len\n    return g(x)\n"),
    ("L23", "def f(x):\n    y = x.items()\n    return y\n"),
    ("L23", "def f(x):\n    return range(x)\n"),
    ("L24", "def f(x):\n    y = set(x)\n    return y\n"),
    ("L25", "def f(x):\n    x.sort()\n"),
    ("L27", "def f(x):\n    return 2 ** x\n"),
    ("L27", "x = 'a % b'\n"),
    ("L27", "x = '\\x41'\n"),
]
CLEAN = '''"""A file with nothing amiss."""

LIMIT = 12
NAMES = ("one", "two")


class Kept(ValueError):
    def __init__(self, start):
        self.start = dict(start)

    def grown(self, other):
        for key, count in other.items():
            self.start[key] = self.start.get(key, 0) + count
        return sorted(self.start, key=len)


def first(xs, otherwise=None):
    if len(set(xs)) == 0 or xs[0] is None:
        return otherwise
    return [x ** 2 for x in xs if isinstance(x, (int, str))][0]
'''


class TestPackage(unittest.TestCase):
    def test_nothing_but_plain_files_lies_in_the_package(self):
        others = [path.name for path in FOLDER.iterdir() if path.name != "__pycache__" and path.suffix != ".py"]
        self.assertEqual(others, [])
        self.assertTrue((FOLDER / "__init__.py").is_file())

    def test_the_package_keeps_to_the_language(self):
        files = {path.name: path.read_text(encoding="utf-8") for path in FOLDER.glob("*.py")}
        self.assertEqual(faults(files), [])


class TestReader(unittest.TestCase):
    def test_a_fault_of_each_rule_is_found(self):
        for rule, text in SAMPLES:
            with self.subTest(rule=rule, text=text):
                self.assertIn(rule, [found[0] for found in faults({"sample.py": text})])

    def test_a_file_with_nothing_amiss_has_no_faults(self):
        self.assertEqual(faults({"sample.py": CLEAN}), [])

    def test_file_names(self):
        self.assertEqual(faults({"Sample.py": ""}), [("L1", "Sample.py", 1)])
        self.assertEqual(faults({"sum.py": ""}), [("L14", "sum.py", 1)])
        self.assertEqual(faults({"test_it.py": ""}), [("L14", "test_it.py", 1)])

    def test_files_draw_from_the_file_that_defines_and_never_in_a_ring(self):
        one = "from viewkeep.two import b\n\n\ndef a():\n    return b()\n"
        two = "def b():\n    return 1\n"
        ring = "from viewkeep.one import a\n\n\ndef b():\n    return a()\n"
        third = "from viewkeep.one import b\n\n\ndef c():\n    return b()\n"
        self.assertEqual(faults({"one.py": one, "two.py": two}), [])
        self.assertEqual(faults({"one.py": one, "two.py": ring}), [("L16", "one.py", 1), ("L16", "two.py", 1)])
        self.assertEqual(faults({"one.py": one, "two.py": two, "third.py": third}), [("L16", "third.py", 1)])


if __name__ == "__main__":
    unittest.main()

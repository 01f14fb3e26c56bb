import pathlib
import sys
import unittest

ROOT = pathlib.Path(__file__).resolve().parent.parent
sys.path.insert(0, str(ROOT / ".ci"))

import language  # noqa: E402

TOP = {"fallorflow/__init__.py": "", "fallorflow/other.py": "LIMIT = 3\n\n\ndef told(x):\n    return x\n\n\nclass Box:\n    def __init__(self):\n        self.many = 1\n"}

# For each rule pieces of code that break it, and pieces that keep it.
BROKEN = [
    ("L16", "import math\n"), ("L2", "from math import gcd as g\n"), ("L2", "from math import sqrt\n"), ("L2", "from os import path\n"),
    ("L2", "from fallorflow.other import *\n"), ("L2", "from .other import told\n"), ("L2", "from fallorflow.nothing import told\n"),
    ("L2", "X = 1\nfrom fallorflow.other import told\n"), ("L2", "from math import gcd\ndef f(xs):\n    return gcd(*xs)\n"),
    ("L2", "from math import gcd\ndef f(xs):\n    g = gcd\n    return g\n"), ("L2", "from heapq import heappop\nX = heappop\n"),
    ("L3", "for k in (1, 2):\n    pass\n"), ("L3", "X = [1 for k in (1, 2)]\n"), ("L3", "X = len('ab')\n"), ("L3", "X, Y = 1, 2\n"),
    ("L3", "print('x')\n"), ("L4", "def f(x=[]):\n    return x\n"), ("L4", "def g(f):\n    return f\n\n\n@g\ndef h(x):\n    return x\n"),
    ("L5", "class C:\n    def __hash__(self):\n        return 1\n"), ("L5", "class C:\n    def __next__(self):\n        return 1\n"),
    ("L5", "class C(dict):\n    pass\n"), ("L5", "def __len__(x):\n    return 1\n"), ("L5", "class C:\n    for k in 'ab':\n        pass\n"),
    ("L5", "class C:\n    @property\n    def many(self):\n        return 1\n"),
    ("L5", "class C:\n    @property\n    def f(self):\n        return 1\n\n\nclass D:\n    def f(self):\n        return 1\n"),
    ("L6", "def f():\n    global X\n    X = 1\n"), ("L6", "async def f():\n    return 1\n"), ("L7", "def f(x):\n    return x / 2\n"),
    ("L7", "X = 1.5\n"), ("L7", "def f():\n    return ...\n"), ("L7", "def f(xs):\n    return (x for x in xs)\n"), ("L7", "def f(xs):\n    return bytes(xs)\n"),
    ("L7", "class C:\n    def __eq__(self, other):\n        return True\n\n\ndef f(xs):\n    return any(x for x in xs)\n"),
    ("L7", "def f(d, x):\n    d[(1, *x)] = 2\n"), ("L7", "def f(d, x):\n    return d[1, *x]\n"), ("L7", "def f(d, x):\n    return d[[*x][0]]\n"),
    ("L7", "def f(d, x):\n    d[(0, (1, *x))] += 2\n"), ("L7", "def f(d, x):\n    del d[(*x,)]\n"), ("L7", "def f(d, x):\n    return d in {1, *x}\n"),
    ("L7", "def f(xs):\n    return f(*xs.pop())\n"), ("L7", "def f(xs):\n    return max(*xs[1])\n"),
    ("L8", "def f(x):\n    return hash(x)\n"), ("L8", "def f(x):\n    return open(x)\n"), ("L9", "def f(x):\n    print(x)\n"),
    ("L10", "X = '" + "a" * 120 + "'\n"), ("L10", "def f():\n" + "    x = 1\n" * 40), ("L10", "# one\n" * 400),
    ("L12", "def f__(x):\n    __x = 1\n    return __x\n"), ("L12", "def f():\n    for _ in 'ab':\n        return _\n"), ("L12", "def _wall_x():\n    return 1\n"),
    ("L12", "class _C:\n    pass\n"), ("L13", "def f():\n    return sorted({1, 2, 3})\n"), ("L14", "# caf\u00e9\n"), ("L14", "X = 1\t\n"),
    ("L15", "X = 1\nX = 2\n"), ("L15", "X = ([], 1)\n"), ("L15", "def f(id):\n    return id\n"), ("L15", "def f():\n    sum = 1\n    return sum\n"),
    ("L15", "from fallorflow.other import told\ndef f(told):\n    return told\n"), ("L15", "def f():\n    class C:\n        pass\n    return C()\n"),
    ("L16", "import fallorflow.other\n"), ("L16", "from fallorflow.other import nobody\n"), ("L17", "def f(x):\n    return x.law\n"),
    ("L17", "def f(law):\n    return law\n"), ("L17", "X = 'an Enum'\n"), ("L17", "def f(x):\n    return type(x)\n"), ("L17", "# a dataclass\n"),
    ("L17", "def f(x):\n    return x.f_back\n"), ("L18", "class C:\n    pass\n\n\ndef f():\n    return [C]\n"),
    ("L18", "class C:\n    def told(self):\n        self.told = 1\n"), ("L18", "class E(StopIteration):\n    pass\n"),
    ("L19", "def f():\n    try:\n        return 1\n    except Exception:\n        return 2\n"), ("L19", "def f():\n    try:\n        return 1\n    except:\n        return 2\n"),
    ("L19", "def f(x):\n    raise x\n"), ("L20", "def f(x):\n    return x is 3\n"), ("L21", "def f():\n    x: int\n    return 1\n"),
    ("L22", "def f(xs):\n    g = len\n    return g(xs)\n"), ("L22", "def f(xs):\n    return list(xs, key=1)\n"), ("L22", "def f(x, y):\n    return isinstance(x, y[0])\n"),
    ("L23", "def f(xs):\n    return zip(xs, xs)\n"), ("L23", "def f(xs):\n    for x in xs:\n        xs.append(x)\n"), ("L23", "def f(xs):\n    for k, x in enumerate(xs):\n        xs[k] = x\n"),
    ("L23", "def f(d):\n    for k, x in d.items():\n        d[k] = x\n"), ("L23", "def g():\n    yield 1\n\n\ndef f():\n    return g()\n"),
    ("L23", "def g():\n    x = yield 1\n    return\n"), ("L23", "def f(d):\n    return [d.keys()]\n"),
    ("L24", "def f(xs):\n    return set(xs)\n"), ("L24", "def f(xs):\n    for x in {1, 2}:\n        return x\n"), ("L25", "def f(x):\n    return x.union(x)\n"),
    ("L25", "def f(x):\n    return x.split(sep='a')\n"), ("L25", "def f(x):\n    return x.isdisjoint(x)\n"), ("L26", "class C:\n    def __init__(self):\n        self.items = 1\n"),
    ("L26", "class C:\n    def decode(self):\n        return 1\n"), ("L27", "def f(x):\n    return x ** x\n"), ("L27", "def f(x):\n    return 2 ** 65\n"),
    ("L27", "X = '5 %'\n"), ("L27", "X = '\\x41'\n"), ("L27", "X = r'a'\n"), ("L27", "X = '__odd__'\n"), ("L27", "X = " + "1" * 901 + "\n"),
    ("L28", "class C:\n    def __init__(self):\n        return None\n"), ("L28", "class C:\n    def __str__(self):\n        x = 'a'\n        return x\n"),
    ("L28", "class C:\n    def __len__(self):\n        return self.many\n"), ("L28", "class C:\n    def __str__(self):\n        return told(self)\n"),
    ("L28", "class C:\n    def __str__(self):\n        if self:\n            return 'a'\n"),
]
KEPT = [
    "\"\"\"Told.\"\"\"\nfrom math import gcd\n\nfrom fallorflow.other import LIMIT, Box, told\n\nWORDS = (\"a\", \"b\")\n\n\n"
    "def f(x, k=LIMIT):\n    \"\"\"The type of nothing.\"\"\"\n    if isinstance(x, (int, Box)) and x in WORDS:\n        raise ValueError(\"no\")\n"
    "    return [gcd(a, b) for a, b in zip(told(x), range(k))]\n",
    "class E(ValueError):\n    def __init__(self, spot):\n        self.spot = spot\n\n\nclass D:\n    def __init__(self):\n        self._rows = ()\n\n"
    "    @property\n    def rows(self):\n        return self._rows\n\n    def __eq__(self, other):\n        return isinstance(other, D) and self._rows == other._rows\n\n"
    "    def __str__(self):\n        return f\"{len(self._rows)} rows\"\n",
    "def f(d, x):\n    key = (1, *x)\n    d[key] = 2\n    return [*x, d.get((2, *x), d[key]), f(*x), f(*[d, x])]\n",
    "def each(xs):\n    for x in xs:\n        yield x\n\n\ndef f(xs):\n    found = {}\n    for x in each(xs):\n        found.setdefault(x, []).append(10 ** 60)\n"
    "    first, *others = sorted(found)\n    for _ in range(3):\n        others.append(first)\n    return len(set(others)) > 2 and 1 not in {2, 3}\n",
]


def found_in(text, path="fallorflow/this.py"):
    return [rule for _, _, rule, _ in language.faults({**TOP, path: text})]


class LanguageTest(unittest.TestCase):
    def test_the_package(self):
        from interface import INTERFACE
        files = language.read_package(ROOT)
        self.assertEqual(language.faults(files), [])
        self.assertEqual(language.interface_faults(files, INTERFACE), [])

    def test_what_breaks_a_rule(self):
        for rule, text in BROKEN:
            with self.subTest(rule=rule, text=text[:200]):
                self.assertIn(rule, found_in(text))

    def test_what_keeps_them(self):
        for text in KEPT:
            self.assertEqual(language.faults({**TOP, "fallorflow/this.py": text}), [])

    def test_files(self):
        for path in ["fallorflow/This.py", "fallorflow/a-b.py", "fallorflow/notes.txt", "fallorflow/.hidden"]:
            self.assertIn("L1", found_in("", path), path)
        for path in ["fallorflow/deep/x.py", "fallorflow/deep/__main__.py", "fallorflow/tests.py", "fallorflow/sum.py", "fallorflow/law_x.py"]:
            self.assertIn("L14", found_in("", path), path)
        both = {**TOP, "fallorflow/a.py": "", "fallorflow/a/__init__.py": ""}
        self.assertEqual([rule for _, _, rule, _ in language.faults(both)], ["L14"])
        many = {**TOP, **{f"fallorflow/m{at}.py": "" for at in range(99)}}
        self.assertEqual([rule for _, _, rule, _ in language.faults(many)], ["L14"])

    def test_rings_of_imports(self):
        ring = {**TOP, "fallorflow/a.py": "from fallorflow.b import y\n\n\ndef x():\n    return y()\n",
                "fallorflow/b.py": "from fallorflow.a import x\n\n\ndef y():\n    return x()\n"}
        self.assertEqual({rule for _, _, rule, _ in language.faults(ring)}, {"L16"})

    def test_interface(self):
        files = {"fallorflow/a.py": "from fallorflow.b import f\n\n\nclass C:\n    def g(self):\n        return f(1)\n"}
        self.assertEqual(len(language.interface_faults(files, {"fallorflow.a": ["f", "C", "C.g", "C.h", "D"]})), 3)
        self.assertEqual(len(language.interface_faults(files, {"fallorflow.b": ["f"]})), 1)

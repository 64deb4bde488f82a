"""The language rules, as far as reading the files tells; and whether the reader itself notices faults."""

import os
import unittest

import twinbegun
from tests.language import assignments, closed_names, faults, sources_of

FOLDER = os.path.dirname(os.path.abspath(twinbegun.__file__))


def read_package():
    """The sources of the package by file name, and the names of whatever else its folder contains."""
    sources = {}
    others = []
    for folder, folders, names in os.walk(FOLDER):
        folders[:] = [name for name in folders if name != "__pycache__"]
        for name in names:
            path = os.path.join(folder, name)
            short = os.path.relpath(path, FOLDER).replace(os.sep, "/")
            if name.endswith(".py"):
                with open(path, encoding="ascii", newline="") as file:
                    sources[short] = file.read()
            else:
                others.append(short)
    return sources, others


class Package(unittest.TestCase):
    def test_the_folder_contains_sources_only(self):
        sources, others = read_package()
        self.assertEqual(others, [])
        self.assertIn("__init__.py", sources)
        self.assertIn("programs.py", sources)

    def test_no_rule_is_broken(self):
        self.assertEqual(faults(read_package()[0]), [])

    def test_no_name_is_assigned_of_which_a_property_has_no_setter(self):
        sources = sources_of(read_package()[0])
        closed = closed_names(sources)
        assigned = {name for name, _, _ in assignments(sources)}
        # All of these are there, so the reader overlooks neither properties nor assignments.
        self.assertLessEqual({"busy", "one", "other", "program", "restarts", "size", "width", "worked"}, closed)
        self.assertLessEqual({"first", "last", "start", "end", "limit", "mode", "code", "_start"}, assigned)
        self.assertEqual(closed & assigned, set())


GOOD = '''"""A sample that keeps the rules."""

from math import gcd

LIMIT = 4
WORDS = ("a", "b")


def shared(one, other=LIMIT):
    """Their greatest common divisor."""
    return gcd(one, other)


class Box:
    """A box."""

    MOST = 8

    def __init__(self, rows=()):
        self._rows = tuple(rows)

    @property
    def many(self):
        return len(self._rows)

    @property
    def first(self):
        return self._rows[0]

    @first.setter
    def first(self, value):
        raise AttributeError("a box never changes")

    @classmethod
    def made(cls, *rows):
        return cls(rows)

    def steps(self, *, first=0):
        for at, row in enumerate(self._rows):
            if at >= first and row is not None:
                yield row

    def __getitem__(self, at):
        return self._rows[at]

    def __iter__(self):
        raise TypeError("a box is not iterated over")

    def __eq__(self, other):
        return isinstance(other, Box) and self._rows == other._rows

    def __repr__(self):
        return f"Box({len(self._rows)} rows)"


class Note:
    """A note."""

    def __init__(self, first):
        self.first = first
'''

# A class with a property that has no setter.
SHUT = "class A:\n    @property\n    def much(self):\n        return 1\n\n\n"

BAD = [
    ("L2", "import math"),
    ("L2", "from math import floor"),
    ("L2", "from math import gcd as common"),
    ("L2", "from random import random"),
    ("L2", "from .good import Box"),
    ("L2", "from twinbegun.good import *"),
    ("L2", "def f():\n    from twinbegun.good import Box\n    return Box"),
    ("L2", "A = 1\nfrom twinbegun.good import Box"),
    ("L16", "from twinbegun.good import gcd"),
    ("L16", "from twinbegun.good import missing"),
    ("L16", "from twinbegun.bad import f\n\n\ndef f():\n    return 1"),
    ("L3", "A, B = 1, 2"),
    ("L3", "A = len('a')"),
    ("L3", "for k in (1, 2):\n    pass"),
    ("L4", "def f(a=[]):\n    return a"),
    ("L4", "def f(a=len('a')):\n    return a"),
    ("L4", "class A:\n    def f(self, /, a):\n        return a"),
    ("L4", "def g(a):\n    return a\n\n\n@g\ndef f():\n    return 1"),
    ("L5", "class A:\n    def __hash__(self):\n        return 1"),
    ("L5", "class A:\n    for k in (1, 2):\n        pass"),
    ("L5", "class A(ValueError):\n    CODE = 1"),
    ("L5", "class A:\n    def __getitem__(self, at):\n        return at"),
    ("L5", "def f(a):\n    return list(reversed(a))"),
    ("L5", SHUT + "class B:\n    def __init__(self, much):\n        self.much = much"),
    ("L5", SHUT + "class B(A):\n    def f(self):\n        self.much: int = 1"),
    ("L5", SHUT + "def f(a):\n    a.much += 1"),
    ("L5", SHUT + "def f(a):\n    a.more, (a.much, b) = 1, (2, 3)\n    return b"),
    ("L5", SHUT + "def f(a):\n    for a.much in (1, 2):\n        pass"),
    ("L5", SHUT + "def f(a):\n    setattr(a, 'much', 1)"),
    ("L5", SHUT + "def f(a):\n    del a.much"),
    ("L5", "class A:\n    def __init__(self):\n        self.many = 1"),
    ("L6", "def f():\n    global A\n    A = 1"),
    ("L6", "async def f():\n    return 1"),
    ("L7", "def f(a):\n    return a / 2"),
    ("L7", "A = 1.5"),
    ("L7", "def f(a):\n    return any(b for b in a)"),
    ("L8", "def f(a):\n    return print(a)"),
    ("L8", "def f(a):\n    return round(a)"),
    ("L8", "def f(a):\n    return chr(a)"),
    ("L10", "def f():\n" + "    f()\n" * 40),
    ("L10", "\n" * 400),
    ("L10", "A = '" + "a" * 120 + "'"),
    ("L10", "def f():\n\treturn 1"),
    ("L12", "def f__(a):\n    __a = a\n    return __a"),
    ("L12", "def f(a):\n    _, b = a\n    return _"),
    ("L14", "A = '\u00e9'"),
    ("L15", "def f(id):\n    return id"),
    ("L15", "def f(a):\n    sum = a\n    return sum"),
    ("L15", "A = 1\nA = 2"),
    ("L15", "from twinbegun.good import Box\n\n\ndef f(Box):\n    return Box"),
    ("L15", "class A:\n    def len(self):\n        return 1"),
    ("L15", "def f():\n    class A:\n        pass\n    return A()"),
    ("L17", "def f(register):\n    return register"),
    ("L17", "class A:\n    def open(self):\n        return 1"),
    ("L17", "def f(a):\n    return a.law"),
    ("L17", "def f(a):\n    return type(a)"),
    ("L17", "def f():\n    return 'a type'"),
    ("L17", "def f(overloaded):\n    return overloaded"),
    ("L17", "# bad: a Metal box"),
    ("L18", "class A:\n    def f(self):\n        return 1\n\n    def f(self):\n        return 2"),
    ("L18", "class A:\n    def __init__(self):\n        self.f = 1\n\n    def f(self):\n        return 2"),
    ("L19", "def f():\n    try:\n        f()\n    except TypeError:\n        pass"),
    ("L19", "def f():\n    try:\n        f()\n    except:\n        pass"),
    ("L19", "def f():\n    raise ValueError"),
    ("L20", "def f(a):\n    return a is f"),
    ("L22", "def f(a):\n    return isinstance(a, int | str)"),
    ("L22", "def f(a):\n    return int(a, base=3)"),
    ("L23", "def f(a):\n    return zip(a, a)"),
    ("L23", "def f(a):\n    b = yield a\n    return"),
    ("L23", "def f(a):\n    yield a\n    return a"),
    ("L25", "def f(a):\n    return a.maketrans('a', 'b')"),
    ("L26", "class A:\n    def __init__(self):\n        self.items = 1"),
    ("L27", "A = '5 %'"),
    ("L27", "A = '\\x41'"),
    ("L27", "def f(a):\n    return a ** 65"),
    ("L28", "class A:\n    def __init__(self):\n        return None"),
    ("L28", "class A:\n    def __repr__(self):\n        if self:\n            return 'a'"),
    ("L28", "class A:\n    def __len__(self):\n        return self.many"),
]


class Reader(unittest.TestCase):
    def package(self, text):
        return {"__init__.py": "", "good.py": GOOD, "bad.py": text}

    def test_what_keeps_the_rules_is_not_reported(self):
        self.assertEqual(faults(self.package("A = 1\n")), [])

    def test_what_breaks_a_rule_is_reported(self):
        for rule, text in BAD:
            found = faults(self.package(text))
            self.assertIn(rule, [name for name, _ in found], text)
            for _, place in found:
                self.assertIn("bad", place, text)

    def test_each_property_of_a_name_that_is_assigned_has_a_setter(self):
        shut = SHUT.rstrip() + "\n"
        given = shut + "\n    @much.setter\n    def much(self, value):\n        pass\n"
        user = "class B:\n    def f(self):\n        self.much = 1\n"
        package = {"__init__.py": "", "given.py": given, "user.py": user}
        self.assertEqual(faults(package), [])
        # One class without a setter is enough, wherever it stands.
        self.assertEqual(faults({**package, "shut.py": shut}), [("L5", "user.py:3")])
        self.assertEqual(faults({"__init__.py": "", "given.py": given, "shut.py": shut}), [])

    def test_names_of_files(self):
        for name in ("Upper.py", "a-b.py", "1a.py"):
            self.assertIn("L1", [rule for rule, _ in faults({"__init__.py": "", name: ""})])
        for name in ("test_a.py", "tests.py", "len.py", "open.py", "deep/a.py"):
            self.assertIn("L14", [rule for rule, _ in faults({"__init__.py": "", name: ""})])
        self.assertEqual(faults({"__init__.py": "", "deep/__init__.py": "", "deep/a.py": ""}), [])

    def test_files_that_import_from_each_other(self):
        package = {
            "__init__.py": "",
            "a.py": "from twinbegun.b import f\n\n\ndef g():\n    return f()\n",
            "b.py": "from twinbegun.c import h\n\n\ndef f():\n    return h()\n",
            "c.py": "from twinbegun.a import g\n\n\ndef h():\n    return g()\n",
        }
        self.assertIn(("L16", "twinbegun.a"), faults(package))
        package["c.py"] = "def h():\n    return 1\n"
        self.assertEqual(faults(package), [])

"""Tests that the files of the package keep ../shared/LANGUAGE.md."""

import re
import unittest
from pathlib import Path

from tests.language import changing_behind_operators, defined, faults, imports, methods, own_methods

PACKAGE = Path(__file__).resolve().parent.parent / "tilepushes"

INTERFACE = {
    "errors": [
        "TileError", "InvalidRow", "InvalidRuns", "InvalidSide", "InvalidPushes", "InvalidLevel", "InvalidNumber",
        "InvalidIndex", "InvalidText", "InvalidCommand", "NotPushes", "NoMountain", "NotBefore", "NothingToUndo",
        "NoTray", "TooLarge", "TooFew",
    ],
    "rows": ["is_row", "is_runs", "is_pushes", "runs_of", "row_of", "mirrored", "worth_of"],
    "pushing": ["push_row", "push_runs", "pushed", "push_steps", "is_still", "side_matters", "settle"],
    "pushlists": ["Pushes"],
    "origins": ["origins", "meeting_push", "height_at"],
    "mountains": [
        "is_mountain", "mountain_after", "count_mountains", "nth_mountain", "mountain_number", "sides_of",
        "parting_number",
    ],
    "ends": ["rows_after", "ends_of", "fewest_tiles", "find_pushes", "count_pushes"],
    "before": ["count_before", "walk_before", "nth_before", "before_number"],
    "trays": ["Tray", "ScoreTray"],
    "texts": ["show_row", "show_runs", "read_row", "read_runs"],
    "desk": ["Desk"],
}

# The methods that the interface lists for a class, which stand in that class itself.
METHODS = {
    ("pushlists", "Pushes"): [
        "__init__", "written", "__add__", "__mul__", "__neg__", "__len__", "__getitem__", "__contains__", "__iter__",
        "__eq__", "__call__",
    ],
    ("trays", "Tray"): [
        "__init__", "read", "put", "push_all", "undo", "try_pushes", "row_now", "greatest_now", "rows_so_far", "twin",
        "__len__", "__eq__",
    ],
    ("trays", "ScoreTray"): ["__init__", "score_now"],
    ("desk", "Desk"): ["__init__", "execute"],
}

# For each rule a function that breaks it, so that the reader itself is tested.
BROKEN = [
    ("L2", "import heapq"), ("L2", "from os import path"), ("L2", "from .rows import is_row"),
    ("L2", "from tilepushes.rows import *"), ("L2", "from tilepushes.rows import is_row as row"),
    ("L2", "def f():\n    from tilepushes.rows import is_row\n    return is_row"),
    ("L3", "f(1)"), ("L3", "SIZE = len((1, 2))"), ("L3", "if True:\n    SIZE = 1"),
    ("L3", "def f(a):\n    return ACTIONS[a](1)"),
    ("L4", "@f\ndef g():\n    return 1"), ("L4", "def f(**rest):\n    return rest"),
    ("L4", "def f(a=[]):\n    return a"), ("L4", "def f(*, a=g(1)):\n    return a"),
    ("L4", "class A:\n    def f(*rest):\n        return rest"), ("L4", "def index(a, *, b):\n    return b"),
    ("L4", "class A:\n    def __call__(self, *rest):\n        return rest"),
    ("L4", "@property\ndef f():\n    return 1"), ("L4", "class A:\n    @staticmethod\n    def f(a):\n        return a"),
    ("L4", "class A:\n    @classmethod\n    def f(self):\n        return self"),
    ("L5", "class A:\n    def __getitem__(self, at):\n        return at"),
    ("L5", "class A:\n    def __iter__(self):\n        return self.rows"),
    ("L5", "class A:\n    def __neg__(self):\n        self.rows = 1"),
    ("L5", "class A:\n    def __add__(self, b):\n        self.rows[0] = b"),
    ("L5", "class A:\n    def __mul__(self, b):\n        return self.rows.append(b)"),
    ("L5", "class A:\n    @property\n    def f(self):\n        self.rows = 1"),
    ("L5", "class A:\n    def __contains__(self):\n        return 1"),
    ("L5", "class A:\n    size = [1]"), ("L5", "class A:\n    def f(self):\n        return 1\n    f = 2"),
    ("L6", "def f():\n    global SIZE\n    SIZE = 1"), ("L6", "async def f():\n    return 1"),
    ("L6", "def f(a):\n    return a / 2"), ("L6", "def f(a):\n    return {a}"), ("L6", "def f(a):\n    return 2 ** a"),
    ("L6", "def f(a):\n    return sum(b for b in a)"), ("L6", "def f(a):\n    try:\n        a.pop()\n    except KeyError:\n"
     "        return a"), ("L6", "def f(a):\n    return lambda b: a"), ("L6", "SIZE = WIDTH = 1"),
    ("L7", "def f():\n    return 1.5"), ("L7", "def f():\n    return b'a'"), ("L7", "def f(a):\n    return f'{a!r}'"),
    ("L7", "def f(a, b):\n    return any(a + b)"), ("L7", "def f(a):\n    return sum(g(a))"),
    ("L7", "def f(a):\n    return [*a, 1]"), ("L7", "def f(a):\n    return g(*a[0])"),
    ("L8", "def f(a):\n    return print(a)"), ("L8", "def f(a):\n    return hash(a)"), ("L8", "def f():\n    return len"),
    ("L8", "def f(a):\n    return map(str, a)"), ("L8", "class A(KeyError):\n    pass"),
    ("L10", "def f():\n" + "    a = 1\n" * 40), ("L10", "# " + "a" * 120), ("L10", "a = 1\n" * 400),
    ("L12", "def __f():\n    return 1"), ("L12", "def f(a):\n    return a._row"),
    ("L12", "def __len__(a):\n    return 1"), ("L12", "class A:\n    def f(self):\n        return self.__row"),
    ("L12", "class A:\n    def __hash__(self):\n        return 1"), ("L12", "class _A:\n    pass"),
    ("L14", "# \t"), ("L14", "# \u00e4"),
    ("L15", "def len():\n    return 1"), ("L15", "def f(sum):\n    return sum"), ("L15", "a = 1\na = 2"),
    ("L15", "from tilepushes.rows import is_row\ndef f(is_row):\n    return is_row"),
    ("L17", "def f(register):\n    return register"), ("L17", "def f(law):\n    return law"),
    ("L17", "def f():\n    return 'the type of a'"), ("L17", "def typing():\n    return 1"),
    ("L18", "class A:\n    def own(self):\n        self.own = 1"),
    ("L19", "def f(a):\n    raise a"), ("L19", "def f(a):\n    raise KeyError"),
    ("L20", "def f(a):\n    return a is 1"), ("L20", "def f(a, b):\n    return a is not b"),
    ("L21", "def f(a: int):\n    return a"), ("L21", "def f(a) -> int:\n    return a"),
    ("L23", "def f(a):\n    b = zip(a, a)\n    return list(b)"), ("L23", "def f(a):\n    for b in a:\n        a.append(b)"),
    ("L23", "def f(a):\n    for b in range(len(a)):\n        a[b] = 1"),
    ("L21", "def f(*a: int):\n    return a"), ("L21", "def f(*, a: int):\n    return a"),
    ("L22", "def f(a):\n    return max(a, 1, default=0)"), ("L22", "def f(a):\n    return a.index(b=1)"),
    ("L23", "class A:\n    def f(self):\n        for a in self.b:\n            self.b.append(a)"),
    ("L23", "def f(a):\n    return len(a.values())"),
    ("L22", "def f(a):\n    return sorted(a, key=len)"), ("L22", "def f(a, b):\n    return sorted(a, reverse=b)"),
    ("L23", "def f(a):\n    return a.items()"), ("L23", "def f(a):\n    b = enumerate(zip(a, a))\n    return b"),
    ("L24", "def f(a):\n    return set(a)"), ("L24", "def f(a):\n    return list({b for b in a})"),
    ("L24", "def f(a):\n    return sorted({b for b in a}, reverse=True)"),
    ("L25", "def f(a):\n    return a.encode()"), ("L25", "def f(a):\n    return a.isdigit(1)"),
    ("L27", "def f():\n    return '5 %'"), ("L27", "def f():\n    return '__f__'"),
    ("L28", "class A:\n    def __init__(self):\n        return None"),
    ("L28", "class A:\n    def __init__(self):\n        A.__init__(self)"),
    ("L28", "class A:\n    def __eq__(self, other):\n        return self.a == other.a"),
    ("L28", "class A:\n    def __len__(self):\n        return self.a"),
]


def sources():
    return {path.stem: path.read_text(encoding="utf-8") for path in sorted(PACKAGE.glob("*.py"))}


class LanguageTests(unittest.TestCase):
    def test_the_files_keep_the_rules(self):
        own = {name for source in sources().values() for name in own_methods(source)}
        for name, source in sources().items():
            with self.subTest(name):
                self.assertEqual(faults(source, own), [])

    def test_the_reader_finds_faults(self):
        for rule, source in BROKEN:
            with self.subTest(rule, source=source[:60]):
                self.assertIn(rule, [found for found, line in faults(source, {"own"})])

    def test_the_folder_holds_plain_files_only(self):
        names = [path.name for path in PACKAGE.iterdir() if path.name != "__pycache__"]
        self.assertEqual([name for name in names if not re.fullmatch(r"(__init__|[a-z][a-z0-9_]*)\.py", name)], [])
        self.assertIn("__init__.py", names)

    def test_operators_change_nothing(self):
        self.assertEqual(changing_behind_operators(sources().values()), [])
        behind = "class A:\n    def __neg__(self):\n        return f(self)\n\n\ndef f(a):\n    return g(a)\n\n\n"
        self.assertEqual(changing_behind_operators([behind, "def g(a):\n    a.n = 1\n"]), ["g"])

    def test_words_that_a_package_with_indexed_objects_bars(self):
        for name, source in sources().items():
            self.assertEqual(re.findall(r"\(type\)|Meta|metaclass=", source), [], name)

    def test_imports_name_the_file_that_defines(self):
        found = sources()
        for name, source in found.items():
            for module, imported in imports(source):
                with self.subTest(name, imported=imported):
                    self.assertIn(imported, defined(found[module.removeprefix("tilepushes.")]))

    def test_no_two_files_import_from_each_other(self):
        needs = {
            name: {module.removeprefix("tilepushes.") for module, imported in imports(source)}
            for name, source in sources().items()
        }
        while needs:
            free = [name for name, needed in needs.items() if not needed & set(needs)]
            self.assertNotEqual(free, [], needs)
            needs = {name: needed for name, needed in needs.items() if name not in free}

    def test_the_interface_is_defined_in_its_files(self):
        found = sources()
        for name, listed in INTERFACE.items():
            with self.subTest(name):
                self.assertEqual([each for each in listed if each not in defined(found[name])], [])

    def test_the_methods_stand_in_their_classes(self):
        found = sources()
        for (name, owner), listed in METHODS.items():
            with self.subTest(owner):
                self.assertEqual([each for each in listed if each not in methods(found[name], owner)], [])


if __name__ == "__main__":
    unittest.main()

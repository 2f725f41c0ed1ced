"""LANGUAGE.md: what can be read off the code rule by rule, and that the readers see what is wrong."""

from pathlib import Path
from unittest import TestCase

from tests.language_code import language_faults

FOLDER = Path(__file__).resolve().parent.parent / "lanerules"

BOX = """
class Bad(ValueError):
    def __init__(self, at):
        self.at = at

def each_row(rows):
    for row in rows:
        yield row

def first(rows):
    return rows[0]

class Box:
    def __init__(self, rows):
        self.rows = rows
"""

WRONG = {
    "L25": ["class Row:\n    def many(self):\n        return 1\n\ndef told(row):\n    return [row.many]",
            "def told(text):\n    return text.format(1)", "def told(x):\n    return x.bit_count()"],
    "L18": ["def told(rows):\n    return [Box]", "def told(rows):\n    kind = Bad\n    return kind",
            "def told(rows):\n    return isinstance(Box, tuple)",
            "def told(box):\n    return box.other", "class Twice:\n    def a(self):\n        return 1\n"
            "    def a(self):\n        return 2"],
    "L23": ["def told(rows):\n    return each_row(rows)", "def told(rows):\n    kept = each_row(rows)\n    return kept",
            "def told(rows):\n    return range(3)", "def told(rows):\n    kept = zip(rows, rows)\n    return 1",
            "def told(rows):\n    xs = list(rows)\n    for x in xs:\n        xs.append(x)",
            "def told(rows):\n    xs = list(rows)\n    for k, x in enumerate(xs):\n        xs[k] = x",
            "def told(rows):\n    return first(each_row)", "class Row:\n    def each_row(self):\n        return 1"],
    "L7": ["def told(rows):\n    return sum(x for x in rows)", "ROWS = [x for x in (1, 2)]",
           "def told(rows):\n    return first(*list(rows))", "def told(n):\n    return f'{n:e}'",
           "def told(n, k):\n    return f'{n:>{k}}'", "def told(n):\n    return f'{n!a}'"],
    "L24": ["def told(rows):\n    return set(rows)", "def told(rows):\n    return list({x for x in rows})"],
    "L5": ["def told(rows):\n    return list(reversed(rows))\nclass Row:\n    def __getitem__(self, at):\n"
           "        return 1\n    def __iter__(self):\n        raise TypeError('no')",
           "class Row:\n    def __getitem__(self, at):\n        return 1",
           "class Row:\n    def __hash__(self):\n        return 1",
           "class Row:\n    def __bool__(self):\n        return self.rows",
           "class Row:\n    NAMES = ['a']", "class Row:\n    rows = 3", "class Row:\n    Box = 3",
           "class Row:\n    @staticmethod\n    def rows(x):\n        return x",
           "class Row:\n    @classmethod\n    def made(cls, x):\n        return first([cls])",
           "class Row:\n    @classmethod\n    def made(cls, x):\n        return super().made(x)",
           "class Row:\n    @property\n    def rows(self):\n        return 1",
           "class Row(Box):\n    def many(self):\n        return super().__len__()",
           "class Row(Box):\n    def many(self):\n        return [super().many() for x in (1, 2)]",
           "class Row(Box):\n    def many(self):\n        return super().rows",
           "class Row:\n    @property\n    def big(self):\n        return 1\nclass Low(Row):\n"
           "    def many(self):\n        return super().big()",
           "class Row:\n    def many(self):\n        return 1\ndef told(row):\n    return Row.many(row)"],
    "L3": ["ROWS = 1 if 2 else 3", "ROWS = [1, [2]]", "ROWS = {'a': {}}", "A, B = 1, 2", "ROWS = first([1])", "ROWS = 1.5"],
    "L21": ["def told(rows: list):\n    return rows", "def told(rows) -> int:\n    return 1"],
    "L6": ["def told(rows):\n    try:\n        return rows[0]\n    finally:\n        rows.pop()",
           "def told(rows):\n    try:\n        return rows[0]\n    finally:\n        return 1",
           "def told(rows):\n    k = 0\n    try:\n        return rows[0]\n    finally:\n        k = first(rows)"],
    "L15": ["def told(first):\n    return first", "def told(rows):\n    each_row = 1\n    return each_row", "ROW = 1\nROW = 2",
            "ROWS = [1]\ndef told(x):\n    ROWS.append(x)", "ROWS = [1]\ndef told(x):\n    ROWS[0] = x",
            "ROWS = [1]\ndef told(x):\n    return ROWS", "ACTS = {'a': first}\ndef told(x):\n    return ACTS['a'](x)"],
    "L28": ["class Row:\n    def __eq__(self, other):\n        x = 1\n        return x == 2",
            "class Row:\n    def __len__(self):\n        return self.rows",
            "class Row:\n    def __str__(self):\n        return self.rows"],
    "L22": ["def told(rows):\n    return first(rows, 1)", "def told(rows):\n    return first()",
            "def told(rows):\n    return isinstance(rows, set)", "def told(rows):\n    return isinstance(rows, (int, float))",
            "def told(rows):\n    return int(rows, base=2)", "def told(rows):\n    return first(row=rows)"],
    "L27": ["def told(n):\n    return 2 ** n", "TEXT = '\\x41'", "TEXT = 'a._'"],
    "L4": ["def told(rows=[]):\n    return rows", "def told(rows, /):\n    return rows", "def told():\n    return lambda *x: x",
           "class Row:\n    def __call__(self, *x):\n        return x"],
    "L19": ["def told(rows):\n    try:\n        return first(rows)\n    except Bad as e:\n        return [e]",
            "def told(rows):\n    try:\n        return first(rows)\n    except Bad as e:\n        return e.args",
            "def told(rows):\n    try:\n        return rows[0]\n    except TypeError:\n        return 1"],
    "L16": ["from lanerules.box import first\n"],
}

FINE = """
ACTS = {"first": first}

def acted(word, rows):
    act = ACTS[word]
    try:
        return act(rows) if word in ACTS else f"{len(ACTS):>3} {word!r}"
    except Bad as e:
        return e.at

def told(rows, text):
    kept = [row for row in each_row(rows)]
    for k, row in enumerate(rows):
        kept.append(row + k)
    for at in reversed(range(3)):
        kept[at] = 1
    seen = set(kept)
    return (sorted(set(kept)), tuple(each_row(rows)), len(text.split(",")), first(kept), 7 in seen, first(rows=kept))


class Row(Box):
    MOST = 3
    NAMES = ("a", "b")

    def __init__(self, rows):
        super().__init__(rows)
        self.held = True

    @classmethod
    def made(cls, *rows):
        return cls(rows[:cls.MOST])

    @staticmethod
    def told(x):
        return x

    @property
    def many(self):
        return len(self.rows)

    def shut(self, kept):
        try:
            kept = self.MOST
        finally:
            self.held = False
            self.rows = kept
        return self.NAMES

class Low(Row):
    def shut(self, kept):
        return super().shut(kept)
"""


class TestThePackage(TestCase):
    def test_the_package(self):
        texts = {path.name: path.read_text() for path in sorted(FOLDER.glob("*.py"))}
        self.assertGreater(len(texts), 8)
        self.assertEqual(language_faults(texts), [])


class TestTheReaders(TestCase):
    def test_what_is_fine(self):
        self.assertEqual(language_faults({"box.py": BOX + FINE}), [])

    def test_what_is_wrong(self):
        for rule, parts in WRONG.items():
            for part in parts:
                text = part + BOX if part.startswith("from") else BOX + part + "\n"
                found = language_faults({"box.py": text})
                self.assertTrue([fault for fault in found if f": {rule}:" in fault], (rule, part, found))

"""L5 and L28: operators and properties change nothing and call nothing that they are handed or hold."""

from pathlib import Path
from unittest import TestCase

from tests.operator_code import Package, operator_faults

FOLDER = Path(__file__).resolve().parent.parent / "lanerules"

HELD = """
class Wrong(ValueError):
    def __init__(self, index):
        self.index = index

def before(xs, one, other):
    return xs.index(one) < xs.index(other)

def asked(xs, pair):
    return before(xs, pair[0], pair[1])

class Box:
    def __init__(self, rows):
        self.rows = rows
"""


def texts():
    return {path.name: path.read_text() for path in sorted(FOLDER.glob("*.py"))}


def box(*rows):
    return {"box.py": HELD + "".join(f"    {row}\n" for row in rows)}


class TestOperators(TestCase):
    def test_the_package(self):
        self.assertEqual(operator_faults(texts()), [])

    def test_what_is_looked_at(self):
        seen = {(node.file, node.name) for node in Package(texts()).reached()}
        for name in ("__contains__", "__getitem__", "__eq__", "table", "lanes", "is_precedence",
                     "goes_before", "preference_after", "foremost", "is_within", "overs", "bound", "cars", "upcoming",
                     "last", "present", "waiting_cars", "cars_ahead", "next_car", "overs_in", "looks_like", "sizes_text",
                     "lane_at", "is_waiting", "numbers_text", "bound_line"):
            self.assertIn(name, {name for file, name in seen})


class TestTheReader(TestCase):
    """The reader finds what the rules bar, also behind several calls."""

    def check(self, why, *rows):
        found = operator_faults(box(*rows))
        self.assertTrue([fault for fault in found if fault.endswith(why)], found)

    def test_a_call_by_the_name_of_an_attribute(self):
        why = "before: calls by the name of an attribute"
        self.check(why, "def __contains__(self, x):", "    return asked(self.rows, x)")
        self.check(why, "@property", "def many(self):", "    return asked(self.rows, (1, 2))")

    def test_a_call_of_what_is_handed_or_held(self):
        self.check("calls what it is handed", "def __add__(self, other):", "    return other(1)")
        self.check("calls what it holds", "def __bool__(self):", "    return self.rows[0](1)")
        self.check("calls by the name of an attribute", "def __len__(self):", "    return self.rows()")

    def test_changes(self):
        self.check("assigns an attribute", "def __len__(self):", "    self.rows = []", "    return 0")
        self.check("changes what it did not create", "def __str__(self):", "    self.rows.pop()", "    return ''")
        self.check("assigns an item of what it did not create",
                   "def __getitem__(self, at):", "    xs = [0] * 3", "    xs[at] = 1", "    return xs")
        self.check("changes a list or a set", "def __eq__(self, other):", "    xs = []", "    xs.sort()")

    def test_what_is_allowed(self):
        rows = ["def __add__(self, other):", "    xs = [1]", "    k = 0", "    k += 1", "    k += len(xs)",
                "    xs.append(k)", "    xs[0] = 2", "    return Box(xs)"]
        self.assertEqual(operator_faults(box(*rows)), [])

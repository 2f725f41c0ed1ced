"""The examples of the document, word for word as they stand there (examples.txt)."""

import ast
import re
from pathlib import Path
from unittest import TestCase

from lanerules.errors import PassError

TEXT = (Path(__file__).resolve().parent / "examples.txt").read_text()
PROMPT = ">>> "


def sessions():
    """The point of each session, and its lines."""
    blocks = [block.splitlines() for block in TEXT.strip().split("\n\n")]
    return [(int(first.strip("[]")), lines) for first, *lines in blocks]


def outcome(line, names):
    """What Python shows for a line: nothing, the value of an expression, or an error of the package."""
    try:
        if isinstance(ast.parse(line).body[0], ast.Expr):
            return repr(eval(line, names))
        exec(line, names)
        return None
    except PassError as error:
        values = ", ".join(repr(value) for value in vars(error).values())
        return f"raises {error.__class__.__name__}({values})"


def parts(lines):
    """Each line behind a prompt, with the line that is shown below it or None."""
    found = []
    for line in lines:
        if line.startswith(PROMPT):
            found.append([line[len(PROMPT):], None])
        else:
            found[-1][1] = line
    return found


class TestExamples(TestCase):
    def test_all_sessions(self):
        for point, lines in sessions():
            names = {}
            for line, shown in parts(lines):
                with self.subTest(point=point, line=line):
                    self.assertEqual(outcome(line, names), shown)

    def test_each_point_with_a_function_or_class_has_an_example(self):
        points = {point for point, lines in sessions()}
        prose = {14, 15, 24, 25, 26, 38, 47, 50, 59, 71, 74}
        self.assertEqual(points, set(range(6, 78)) - prose)
        self.assertEqual(len(sessions()), 92)

    def test_each_session_shows_something(self):
        for point, lines in sessions():
            self.assertTrue([shown for line, shown in parts(lines) if shown is not None], point)
            self.assertTrue(re.match(r">>> from lanerules\.[a-z]+ import ", lines[0]), point)

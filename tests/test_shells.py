"""[74] to [77]: the shell."""

from itertools import permutations

from lanerules import errors
from lanerules.crossings import Crossing, WatchedCrossing
from lanerules.errors import PassError
from lanerules.fairness import bound_of
from lanerules.histories import earliest
from lanerules.orders import is_possible
from lanerules.rules import ranks_rule, turns_rule
from lanerules.shells import Shell
from lanerules.texts import numbers_text, parse_rule, rule_text
from tests.crossing_model import check_crossing, shown_by
from tests.listing import Draws, by_order
from tests.samples import K, ONE, R, Z, ErrorCase, any_values
from tests.test_crossings import full

WORDS = ("come", "go", "change", "undo", "rule", "row", "waiting", "passed", "possible", "history", "bound")
UNKNOWN = "unknown command"
ALONE = ("go", "undo", "rule", "row", "waiting", "passed")
RIGHT = ["come 0", "go", "change 01 10 01", "undo", "rule", "row", "waiting", "passed", "possible 0 2 1", "history 0 1 2",
         "bound 1"]


class ShellCase(ErrorCase):
    def assert_unknown(self, shell, value):
        """The value is no command, and nothing has changed by it."""
        before = repr(shown_by(shell.crossing_of_the_test))
        self.assert_same(shell.execute(value), UNKNOWN)
        self.assertEqual(repr(shown_by(shell.crossing_of_the_test)), before)


def shell_on(crossing):
    shell = Shell(crossing)
    shell.crossing_of_the_test = crossing
    return shell


class TestShells(ShellCase):
    def test_words(self):
        self.assert_same((Shell.WORDS, Shell(Crossing(Z)).WORDS), (WORDS, WORDS))

    def test_this_very_crossing(self):
        for crossing in (Crossing(Z), WatchedCrossing(Z)):
            one, other = Shell(crossing), Shell(crossing)
            self.assertEqual([one("come 0"), other("come 1"), crossing.come(1), one("go"), other("passed")],
                             ["ok 1", "ok 2", 3, "ok 4", "0"])
            crossing.undo()
            self.assertEqual([one("passed"), one("waiting")], ["none", "0 1 2"])
            self.assertEqual((len(one.transcript()), len(other.transcript())), (4, 2))

    def test_last(self):
        shell = Shell(Crossing(ONE))
        self.assertIsNone(shell.last)
        seen = []
        for value in ("come 0", "x", None, "go", 3, "go"):
            seen.append((shell(value), shell.last))
        self.assert_same(seen, [("ok 1", ("come 0", "ok 1")), (UNKNOWN, ("x", UNKNOWN)), (UNKNOWN, (None, UNKNOWN)),
                                ("ok 2", ("go", "ok 2")), (UNKNOWN, (None, UNKNOWN)), ("error Empty", ("go", "error Empty"))])
        with self.assertRaises(AttributeError):
            shell.last = None
        with self.assertRaises(AttributeError):
            del shell.last

    def test_call_and_execute_are_the_same(self):
        one, other = Shell(Crossing.of(Z, *R)), Shell(Crossing.of(Z, *R))
        for value in [*RIGHT, *any_values(), None]:
            self.assert_same(one(value), other.execute(value))
        self.assert_same(one.transcript(), other.transcript())


class TestCommands(ShellCase):
    def test_edits(self):
        for kind in (Crossing, WatchedCrossing):
            crossing = kind(Z)
            shell = Shell(crossing)
            answers = [shell(value) for value in ("come 0", "come 0", "come 1", "change 01 01 01", "go", "go", "undo", "go")]
            self.assertEqual(answers, ["ok 1", "ok 2", "ok 3", "ok 4", "ok 5", "ok 6", "ok 5", "ok 6"])
            edits = [("come", 0), ("come", 0), ("come", 1), ("change", K), ("go",), ("go",)]
            check_crossing(self, crossing, Z, (), edits, kind=kind)

    def test_queries(self):
        crossing = Crossing(Z)
        shell = Shell(crossing)
        self.assertEqual([shell(word) for word in ("rule", "row", "waiting", "passed")], ["01 10 01", "none", "none", "none"])
        crossing.come_all(*R)
        crossing.go_until(2)
        self.assertEqual([shell(word) for word in ("rule", "row", "waiting", "passed")],
                         ["01 10 01", "0 0 1 0 1", "1 3 4", "0 2"])
        crossing.change(K)
        self.assertEqual(shell("rule"), "01 01 01")
        self.assertEqual(Shell(Crossing(ONE))("rule"), "0 0")
        self.assertEqual(Shell(Crossing(turns_rule(6)))("rule"), "012345 123450 234501 345012 450123 501234 012345")

    def test_possible_and_history_against_the_listing(self):
        draws = Draws(75)
        for size, cars in ((1, 3), (2, 4), (3, 4), (2, 5)):
            for _ in range(6):
                rule, row = draws.rule(size), draws.row(size, cars)
                shell, listed = Shell(Crossing.of(rule, *row)), by_order(rule, row)
                for order in permutations(range(cars)):
                    text = numbers_text(order)
                    self.assertEqual(shell(f"possible {text}"), "yes" if order in listed else "no")
                    self.assertEqual(shell(f"history {text}"), listed[order][-1] if order in listed else "none")

    def test_they_are_about_the_present_rule_and_the_whole_row(self):
        crossing = Crossing.of(Z, 0, 0, 1)
        shell = Shell(crossing)
        before = [shell("possible 2 0 1"), shell("possible 0 1 2"), shell("history 0 1 2")]
        self.assertEqual(before, ["no", "yes", "apapap"])
        crossing.go_until(2)
        self.assertEqual([shell("possible 2 0 1"), shell("possible 0 1 2"), shell("history 0 1 2")], before)
        crossing.change(((1, 0), (1, 0), (1, 0)))
        self.assertEqual([shell("possible 2 0 1"), shell("history 2 0 1")], ["yes", "aaappp"])
        crossing.come(1)
        self.assertEqual([shell("possible 2 0 1"), shell("possible 2 3 0 1")], [UNKNOWN, "yes"])

    def test_forty_cars(self):
        crossing = full(Crossing, turns_rule(6))
        shell = Shell(crossing)
        order = tuple(crossing.foresee())
        for asked in (order, tuple(range(40)), tuple(reversed(range(40)))):
            text = numbers_text(asked)
            self.assertEqual(shell(f"possible {text}"), "yes" if is_possible(turns_rule(6), crossing.row(), asked) else "no")
            self.assertEqual(shell(f"history {text}"), earliest(turns_rule(6), crossing.row(), asked) or "none")
        self.assertEqual(shell(f"possible {numbers_text(order)}"), "yes")
        self.assertEqual(shell("row"), numbers_text(crossing.row()))
        self.assertEqual([shell("come 0"), shell("come 6")], ["error TooLarge", "error NoLane"])

    def test_bound(self):
        for rule in (ONE, Z, K, turns_rule(6), ranks_rule(2, 0, 1)):
            crossing = Crossing(rule)
            shell = Shell(crossing)
            for lane in range(len(rule) - 1):
                bound = bound_of(rule, lane)
                self.assertEqual(shell(f"bound {lane}"), "none" if bound is None else str(bound))
            self.assertEqual(shell(f"bound {len(rule) - 1}"), "error NoLane")
        crossing.change(turns_rule(3))
        self.assertEqual(shell("bound 0"), "2")

    def test_twenty_digits(self):
        shell = shell_on(Crossing.of(Z, 0))
        for word in ("come", "bound"):
            for text in ("2", "9", "10", "1" * 20, "9" * 20):
                self.assertEqual(shell(f"{word} {text}"), "error NoLane")
            for text in ("1" * 21, "9" * 40, "1" * 2900, "0" * 20, "0" * 21, "00", "01"):
                self.assert_unknown(shell, f"{word} {text}")


class TestErrors(ShellCase):
    def test_errors_of_the_edits(self):
        shell = Shell(Crossing(Z))
        for command, answer in (("go", "Empty"), ("undo", "NothingToUndo"), ("come 2", "NoLane"), ("bound 2", "NoLane"),
                                ("change 0 0", "OtherLanes"), ("change 012 012 012 012", "OtherLanes")):
            self.assertEqual(shell(command), f"error {answer}")
        crossing = full(Crossing)
        shell = Shell(crossing)
        self.assertEqual([shell("come 0"), shell("come 2")], ["error TooLarge", "error NoLane"])
        for _ in range(60):
            crossing.change(Z)
        for command in ("come 0", "come 9", "go", "change 0 0", "change 01 10 01"):
            self.assertEqual(shell(command), "error TooManyEdits")
        self.assertEqual([shell("bound 0"), shell("undo"), shell("go")], ["1", "ok 59", "ok 60"])

    def test_passed_over(self):
        crossing = WatchedCrossing(K, bound=1)
        shell = Shell.fed(crossing, "come 1", "come 0", "come 0", "go")
        self.assertEqual([shell("go"), shell("passed"), shell("undo"), shell("go")],
                         ["error PassedOver", "1", "ok 3", "ok 4"])

    def test_busy(self):
        crossing = Crossing.of(Z, *R)
        shell, seen = Shell(crossing), []

        def on_step(told):
            seen.extend([shell(value) for value in ("come 0", "come 9", "go", "undo", "change 0 0", "change 0", "passed",
                                                    "waiting", "bound 0", "possible 0 2 1 4 3")])

        crossing.attempt([("go",)], on_step=on_step)
        self.assertEqual(seen, ["error Busy"] * 5 + [UNKNOWN, "0", "1 2 3 4", "1", "yes"])
        self.assertEqual(shell("go"), "ok 2")

    def test_every_error_of_the_package_by_its_name(self):
        values = {"Absent": 1, "BadCount": 1, "BadDay": 1, "BadRow": 1, "BadRule": 1, "BadText": 1, "BadWish": 1, "BadWord": 1,
                  "NoCar": 1, "NoCount": 1, "NoIndex": 1, "NoLane": 1, "NoPair": 1, "NoVersion": 1, "OtherLanes": 1,
                  "PassedOver": 1, "Rejected": 1, "TooLarge": 1}
        kinds = [kind for kind in vars(errors).values() if isinstance(kind, type) and issubclass(kind, PassError)]
        self.assertEqual(len(kinds), 30)
        for kind in kinds:
            error = kind(*[7] * values.get(kind.__name__, 0))

            class Failing(Crossing):
                def go(self):
                    raise error

                def current(self, *, version=None):
                    raise error

            shell = Shell(Failing(Z))
            self.assertEqual([shell("go"), shell("rule"), shell("bound 0")], [f"error {kind.__name__}"] * 3)
            self.assertEqual(len(shell.transcript()), 3)

    def test_other_errors_propagate(self):
        class Failing(Crossing):
            def go(self):
                raise KeyError("another")

        shell = Shell(Failing(Z))
        with self.assertRaises(KeyError):
            shell("go")

    def test_an_error_changes_nothing(self):
        crossing = Crossing.of(Z, 0, 1)
        shell = Shell(crossing)
        before = repr(shown_by(crossing))
        for command in ("come 2", "undo", "change 0 0", "bound 7"):
            self.assertTrue(shell(command).startswith("error "))
        self.assertEqual(repr(shown_by(crossing)), before)


class TestUnknown(ShellCase):
    def test_any_values(self):
        shell = shell_on(Crossing.of(Z, 0, 0, 1))
        for value in [None, 0, ("go",), ["go"], {"go": "go"}, b"go", shell, Crossing(Z), *any_values()]:
            self.assert_unknown(shell, value)

    def test_words_without_and_with_arguments(self):
        shell = shell_on(Crossing.of(Z, 0, 0, 1))
        for word in ALONE:
            for rest in (" ", " 0", "  ", "\n", "0", " go", " none", ","):
                self.assert_unknown(shell, word + rest)
                self.assert_unknown(shell, rest + word)
        for word in set(WORDS) - set(ALONE):
            for rest in ("", " ", "  ", " x", " none", "0", "\n0", " 0 ", "  0", " -1", " +0", " 0\n", " 0x0", " None", " 1.0"):
                self.assert_unknown(shell, word + rest)
        for word in ("", " ", "come_all 0", "go_until 0", "attempt", "copy", "edits", "word", "cars", "version", "help",
                     "Go", "GO", "COME 0", "come, 0", "goo", "g"):
            self.assert_unknown(shell, word)

    def test_arguments_that_are_not_as_described(self):
        shell = shell_on(Crossing.of(Z, 0, 0, 1))
        for value in ("come 0 1", "come 0 0", "come zero", "bound 0 1", "bound none", "change", "change 01", "change 01 10",
                      "change 01 10 00", "change 01  10 01", "change 01 10 01 ", "change (0, 1)", "change none",
                      "possible", "possible 0", "possible 0 1", "possible 0 1 2 3", "possible 0 1 1", "possible 0 1 3",
                      "possible 0 2  1", "possible 0 2 1 ", "possible 0 02 1", "possible none", "history none", "history 0",
                      "history 0 1", "history 0 1 2 3", "history 0 0 1", "history 0,1,2", "undo 1", "go 1"):
            self.assert_unknown(shell, value)

    def test_no_order_of_an_empty_row(self):
        shell = shell_on(Crossing(Z))
        for value in ("possible none", "history none", "possible ", "history ", "possible", "history", "possible 0",
                      "history 0"):
            self.assert_unknown(shell, value)

    def test_near_to_right_commands(self):
        for command in RIGHT:
            for at in range(len(command) + 1):
                for letter in " x9-\n":
                    crossing = Crossing.of(Z, 0, 0, 1)
                    shell = shell_on(crossing)
                    other = command[:at] + letter + command[at:]
                    word, space, rest = other.partition(" ")
                    if word in ("come", "bound") and rest.isdigit() and rest[0] != "0":
                        self.assertEqual(shell(other), "error NoLane")
                    else:
                        self.assert_unknown(shell, other)
            for at in range(len(command)):
                self.assert_unknown(shell_on(Crossing.of(Z, 0, 0, 1)), command[:at] + command[at + 1:])


class TestTranscripts(ShellCase):
    def test_none_and_up_to_thirty(self):
        shell = Shell(Crossing(ONE))
        self.assert_same(shell.transcript(), ())
        expected = []
        for number in range(30):
            value = ["row", number, f"x{number}"][number % 3]
            answer = shell(value)
            expected.append((value if isinstance(value, str) else None, answer))
            self.assert_same(shell.transcript(), tuple(expected))

    def test_more_than_thirty(self):
        shell, every = Shell(Crossing(ONE)), []
        for number in range(75):
            value = f"x{number}" if number % 4 else "go"
            every.append((value, shell.execute(value)))
            self.assert_same(shell.transcript(), tuple(every[-30:]))
            self.assert_same(shell.last, every[-1])

    def test_a_transcript_does_not_change_later(self):
        shell = Shell.fed(Crossing(ONE), "go", "row")
        before = shell.transcript()
        shell("come 0")
        self.assert_same(before, (("go", "error Empty"), ("row", "none")))


class TestFed(ShellCase):
    def test_none_and_many(self):
        crossing = Crossing(ONE)
        shell = Shell.fed(crossing)
        self.assertIsInstance(shell, Shell)
        self.assert_same((shell.last, shell.transcript()), (None, ()))
        shell = Shell.fed(crossing, *["come 0", "go"] * 20)
        self.assertEqual((len(shell.transcript()), shell.last, len(crossing)), (30, ("go", "ok 40"), 40))
        self.assert_same(shell("passed"), numbers_text(tuple(range(20))))

    def test_any_values(self):
        for value in [None, *any_values()]:
            shell = Shell.fed(Crossing(ONE), "come 0", value, "row")
            command = value if isinstance(value, str) else None
            self.assert_same(shell.transcript(), (("come 0", "ok 1"), (command, UNKNOWN), ("row", "0")))

    def test_a_class_below(self):
        class Mine(Shell):
            pass

        self.assertIs(type(Mine.fed(Crossing(ONE), "go")), Mine)


class TestWalks(ShellCase):
    def test_the_standing_edits(self):
        draws = Draws(77)
        for kind in (Crossing, WatchedCrossing):
            for size in (1, 2, 3, 6):
                rule, edits = draws.rule(size), []
                crossing = kind(rule)
                shell = Shell(crossing)
                for _ in range(70):
                    text = rule_text(draws.rule(size))
                    command = ["come 0", f"come {draws.below(size)}", "go", "undo", "undo 1", f"change {text}"][draws.below(6)]
                    answer = shell(command)
                    if answer.startswith("ok") and command == "undo":
                        edits.pop()
                    elif answer.startswith("ok"):
                        word, *rest = command.split(" ", 1)
                        edits.append({"come": lambda: ("come", int(rest[0])), "go": lambda: ("go",),
                                      "change": lambda: ("change", parse_rule(rest[0]))}[word]())
                    if answer.startswith("ok"):
                        self.assertEqual(answer, f"ok {len(edits)}")
                check_crossing(self, crossing, rule, (), edits, kind=kind)

"""[67]: batches that are tried, fail, or are interrupted; and what is barred meanwhile."""

from lanerules.crossings import Crossing, WatchedCrossing
from lanerules.errors import BadBatch, Busy, Empty, NoCar, NoLane, NoVersion, Rejected
from lanerules.rules import turns_rule
from tests.crossing_model import check_crossing, expected_of, shown_by
from tests.samples import K, ONE, R, Z, any_values
from tests.test_crossings import BOTH, NO_RULES, CrossingCase

BATCH = (("come", 1), ("go",), ("change", K), ("come", 0), ("go",), ("go",))


class Interrupted(BaseException):
    """Not even an Exception."""


def edits_of(crossing):
    """All calls that change a crossing, with right and with wrong arguments."""
    return [crossing.go, crossing.undo, crossing.come_all, lambda: crossing.come(0), lambda: crossing.come(None),
            lambda: crossing.change(Z), lambda: crossing.change(None), lambda: crossing.come_all(0, None),
            lambda: crossing.go_until(0), lambda: crossing.go_until(None), lambda: crossing.attempt([]),
            lambda: crossing.attempt(None), lambda: crossing.attempt([("go",)])]


class TestDone(CrossingCase):
    def test_each_edit_stands_by_itself(self):
        for kind in BOTH:
            for batch in (BATCH, list(BATCH)):
                crossing = kind.of(Z, 0, 0)
                crossing.go()
                self.assertEqual(crossing.attempt(batch), 7)
                edits = [("go",), *BATCH]
                check_crossing(self, crossing, Z, (0, 0), edits, kind=kind)
                for version in range(6, -1, -1):
                    self.assertEqual(crossing.undo(), version)
                    check_crossing(self, crossing, Z, (0, 0), edits[:version], kind=kind)

    def test_none_and_twenty_edits(self):
        for kind in BOTH:
            crossing = kind(ONE)
            self.assertEqual((crossing.attempt([]), crossing.attempt(())), (0, 0))
            self.assertEqual(crossing.attempt([("come", 0)] * 20), 20)
            self.assertEqual(crossing.attempt((("go",),) * 20), 40)
            self.assertEqual(crossing.attempt([("come", 0)] * 20), 60)
            self.assert_unchanged(crossing, Rejected(0), crossing.attempt, [("go",)])
            self.assertEqual(crossing.attempt([]), 60)

    def test_the_batch_is_not_changed(self):
        batch = list(BATCH)
        Crossing.of(Z, 0, 0).attempt(batch)
        self.assert_same(batch, list(BATCH))

    def test_on_step(self):
        for kind in BOTH:
            crossing, seen = kind.of(Z, *R), []

            def on_step(told):
                self.assertIs(told, crossing)
                seen.append(shown_by(told))
                return ["this", "has", "no", "effect"]

            self.assertEqual(crossing.attempt(BATCH, on_step=on_step), 6)
            self.assert_same(seen, [expected_of(Z, R, BATCH[:many]) for many in range(1, 7)])
            self.assertEqual(crossing.attempt([], on_step=on_step), 6)
            self.assertEqual(len(seen), 6)

    def test_the_batch_is_read_once(self):
        for change in (lambda batch: batch.clear(), lambda batch: batch.append(("go",)), lambda batch: batch.reverse(),
                       lambda batch: batch.__setitem__(1, None)):
            crossing, batch = Crossing.of(Z, *R), list(BATCH)
            self.assertEqual(crossing.attempt(batch, on_step=lambda told: change(batch)), 6)
            check_crossing(self, crossing, Z, R, BATCH)


class TestBadBatches(CrossingCase):
    def test_bad_batches(self):
        for kind in BOTH:
            crossing = kind.of(Z, 0, 1)
            wrong = [None, 0, "go", (("go",),) * 21, [("come", 0)] * 21, {"go": 1}, ["go"], [["go"]], [("go", 1)], [()],
                     [("come",)], [("come", 0, 0)], [("change",)], [("undo",)], [("come_all", 0)], [("go",), None],
                     [("Go",)], [(None,)], [("go", )] * 20 + [None], [(0, "come")], [("change", Z, Z)], ("go",),
                     ("come", 0), [("come", 0), ["come", 0]]]
            for value in [*wrong, *[value for value in any_values() if value not in ((), [])]]:
                self.assert_unchanged(crossing, BadBatch(), crossing.attempt, value)

    def test_nothing_is_done_and_no_step_is_told(self):
        seen = []
        crossing = Crossing.of(Z, 0, 1)
        self.assert_error(BadBatch(), lambda: crossing.attempt([("go",), ("x",)], on_step=seen.append))
        self.assertEqual(seen, [])

    def test_any_lane_and_any_rule_make_a_batch(self):
        for kind in BOTH:
            crossing = kind.of(Z, 0, 1)
            for value in [None, *any_values()]:
                self.assert_unchanged(crossing, Rejected(1), crossing.attempt, [("go",), ("come", value)])
            for value in [*NO_RULES, ONE, turns_rule(6)]:
                self.assert_unchanged(crossing, Rejected(2), crossing.attempt, (("go",), ("go",), ("change", value)))


class TestRejected(CrossingCase):
    def test_each_error_of_an_edit(self):
        for kind in BOTH:
            crossing = kind.of(Z, 0, 1)
            for batch, index in (([("go",)] * 3, 2), ([("come", 2)], 0), ([("come", 0), ("change", ONE)], 1),
                                 ([("come", 0)] * 19 + [("change", None)], 19)):
                error = self.assert_unchanged(crossing, Rejected(index), crossing.attempt, batch)
                self.assertIs(type(error.index), int)
            crossing.come_all(*[0] * 38)
            self.assert_unchanged(crossing, Rejected(2), crossing.attempt, [("go",), ("go",), ("come", 0)])
            crossing.attempt([("change", Z)] * 20)
            self.assert_unchanged(crossing, Rejected(2), crossing.attempt, [("change", Z)] * 5)
            self.assertEqual(crossing.attempt([("change", Z)] * 2), 60)

    def test_all_edits_are_reverted(self):
        for kind in BOTH:
            crossing, seen = kind.of(Z, *R), []
            crossing.attempt(BATCH)
            wrong = [*BATCH[:4], ("change", K), ("come", 7), ("go",)]
            self.assert_error(Rejected(5), lambda: crossing.attempt(wrong, on_step=lambda told: seen.append(len(told))))
            self.assertEqual(seen, [7, 8, 9, 10, 11])
            check_crossing(self, crossing, Z, R, BATCH, kind=kind)
            self.assertEqual(crossing.go(), 7)

    def test_the_bound_rejects(self):
        crossing = WatchedCrossing(K, bound=1)
        crossing.come_all(1, 0, 0)
        self.assert_unchanged(crossing, Rejected(1), crossing.attempt, [("go",), ("go",)])
        self.assertEqual(crossing.attempt([("go",)]), 4)


class TestInterrupted(CrossingCase):
    def test_exceptions_propagate(self):
        for kind in BOTH:
            for error in (Interrupted("x"), KeyboardInterrupt(), ValueError("y"), NoLane(3), Rejected(7), Busy(), Empty(),
                          StopIteration(), GeneratorExit(), SystemExit(2)):
                for step in range(1, 7):
                    crossing = kind.of(Z, *R)
                    crossing.attempt(BATCH[:3])

                    def on_step(told):
                        if len(told) == 3 + step:
                            raise error

                    with self.assertRaises(error.__class__) as raised:
                        crossing.attempt([("go",), ("come", 1), ("change", Z), ("go",), ("go",), ("come", 0)], on_step=on_step)
                    self.assertIs(raised.exception, error)
                    check_crossing(self, crossing, Z, R, BATCH[:3], kind=kind)
                    self.assertEqual(crossing.attempt([("go",)]), 4)

    def test_an_edit_in_a_step_that_is_not_caught(self):
        for kind in BOTH:
            for at in range(13):
                crossing = kind.of(Z, *R)
                self.assert_error(Busy(), lambda: crossing.attempt(BATCH, on_step=lambda told: edits_of(told)[at]()))
                check_crossing(self, crossing, Z, R, [], kind=kind)


class TestBusy(CrossingCase):
    def test_edits_raise_busy_before_any_other_error(self):
        for kind in BOTH:
            crossing, seen = kind.of(Z, *R), []

            def on_step(told):
                for call in edits_of(told):
                    self.assert_unchanged(told, Busy(), call)
                seen.append(len(told))

            self.assertEqual(crossing.attempt(BATCH, on_step=on_step), 6)
            self.assertEqual(seen, [1, 2, 3, 4, 5, 6])
            check_crossing(self, crossing, Z, R, BATCH, kind=kind)
            self.assertEqual(crossing.undo(), 5)

    def test_busy_before_too_many_edits_and_nothing_to_undo(self):
        for kind in BOTH:
            crossing = kind(ONE)
            for _ in range(59):
                crossing.change(ONE)
            crossing.attempt([("change", ONE)], on_step=lambda told: self.assert_error(Busy(), told.change, ONE))
            self.assertEqual(len(crossing), 60)

    def test_queries_show_the_edits_so_far(self):
        for kind in BOTH:
            crossing, seen = kind.of(Z, *R), []

            def on_step(told):
                seen.append(None)
                check_crossing(self, told, Z, R, BATCH[:len(seen)], kind=kind)
                self.assert_error(NoCar(40), lambda: told[40])
                self.assert_error(NoLane(2), told, 2)
                self.assert_error(NoVersion(7), lambda: told.row(version=7))

            crossing.attempt(BATCH, on_step=on_step)
            self.assertEqual(len(seen), 6)

    def test_a_copy_is_not_busy(self):
        for kind in BOTH:
            crossing, copies = kind.of(Z, *R), []

            def on_step(told):
                made = told.copy()
                check_crossing(self, made, Z, R, BATCH[:len(told)], kind=kind)
                self.assertEqual(made.come(1), len(told) + 1)
                self.assertEqual(made.attempt([("go",)], on_step=lambda other: self.assertIs(other, made)), len(told) + 2)
                copies.append(made)
                if len(copies) == 4:
                    raise Interrupted()

            with self.assertRaises(Interrupted):
                crossing.attempt(BATCH, on_step=on_step)
            check_crossing(self, crossing, Z, R, [], kind=kind)
            for many, made in enumerate(copies, start=1):
                check_crossing(self, made, Z, R, [*BATCH[:many], ("come", 1), ("go",)], kind=kind)
                while len(made) > 0:
                    made.undo()
                check_crossing(self, made, Z, R, [], kind=kind)

    def test_other_crossings_are_not_busy(self):
        for kind in BOTH:
            crossing, other = kind.of(Z, *R), kind(Z)
            crossing.attempt(BATCH, on_step=lambda told: other.come(0))
            self.assertEqual(len(other), 6)
            crossing.attempt([("come", 0)], on_step=lambda told: other.attempt([("go",), ("go",)]))
            self.assertEqual((len(crossing), len(other)), (7, 8))

    def test_not_busy_after_a_bad_batch_in_a_step(self):
        crossing = Crossing(Z)
        crossing.attempt([("come", 0)], on_step=lambda told: self.assert_error(Busy(), told.attempt, None))
        self.assert_error(BadBatch(), crossing.attempt, None)
        self.assertEqual(crossing.go(), 2)

"""[68] and [70]: copies, signs, and crossings as values."""

from lanerules.crossings import Crossing, WatchedCrossing
from lanerules.errors import NoCar, NoLane
from lanerules.fairness import Bounds
from lanerules.rules import Rule, turns_rule
from tests.crossing_model import check_crossing
from tests.listing import Draws
from tests.samples import K, ONE, R, Z, any_values
from tests.test_crossings import BOTH, CrossingCase

EDITS = (("go",), ("come", 1), ("change", K), ("go",))


def made(kind, rule=Z, lanes=R, edits=EDITS):
    crossing = kind.of(rule, *lanes)
    for name, *told in edits:
        getattr(crossing, name)(*told)
    return crossing


class TestCopies(CrossingCase):
    def test_a_copy_has_everything(self):
        for kind in BOTH:
            for lanes, edits in (((), ()), (R, ()), (R, EDITS), ((), [("come", 0)] * 40 + [("go",)] * 20)):
                copy = made(kind, Z, lanes, edits).copy()
                check_crossing(self, copy, Z, lanes, edits, kind=kind)
                while len(copy) > 0:
                    copy.undo()
                check_crossing(self, copy, Z, lanes, (), kind=kind)

    def test_the_two_are_independent(self):
        for kind in BOTH:
            one = made(kind)
            other = one.copy()
            one.come(0)
            check_crossing(self, other, Z, R, EDITS, kind=kind)
            other.undo()
            other.undo()
            check_crossing(self, one, Z, R, [*EDITS, ("come", 0)], kind=kind)
            check_crossing(self, other, Z, R, EDITS[:2], kind=kind)
            third = other.copy().copy()
            other.attempt([("go",), ("change", Z)])
            check_crossing(self, third, Z, R, EDITS[:2], kind=kind)
            self.assert_same((one == other, other == third), (False, False))

    def test_a_copy_of_a_class_below(self):
        class Mine(Crossing):
            pass

        class Yours(WatchedCrossing):
            pass

        for kind in (Mine, Yours):
            crossing = kind.of(Z, *R)
            crossing.go()
            self.assertIs(type(crossing), kind)
            self.assertIs(type(crossing.copy()), kind)
            check_crossing(self, crossing.copy(), Z, R, [("go",)], kind=kind)


class TestEqual(CrossingCase):
    def test_what_counts(self):
        for one in BOTH:
            for other in BOTH:
                self.assertTrue(one(Z) == other(Z))
                self.assertTrue(made(one) == made(other))
                self.assertFalse(made(one) != made(other))
                self.assertFalse(one(Z) == other(K))
                self.assertFalse(one.of(Z, 0, 1) == other.of(Z, 1, 0))
                self.assertFalse(one.of(Z, 0, 1) == other.of(Z, 0))
                self.assertFalse(one.of(Z, 0) == made(other, Z, (0,), [("go",)]))
                self.assertFalse(one(ONE) == other(turns_rule(6)))

    def test_the_order_of_the_passed_cars_counts(self):
        one = made(Crossing, Z, (0, 1), [("go",), ("go",)])
        other = made(Crossing, ((1, 0), (1, 0), (0, 1)), (0, 1), [("go",), ("go",), ("change", Z)])
        self.assertFalse(one == other)
        self.assertTrue(one != other)

    def test_edits_and_times_do_not_count(self):
        for kind in BOTH:
            self.assertTrue(kind.of(Z, 0, 1) == made(kind, Z, (), [("come", 0), ("come", 1)]))
            self.assertTrue(kind.of(Z, 0) == made(kind, K, (0,), [("change", Z)]))
            self.assertTrue(made(kind, Z, (0, 0), [("go",)]) == made(kind, Z, (0,), [("go",), ("come", 0)]))
        self.assertTrue(WatchedCrossing(Z, bound=3) == WatchedCrossing(Z))
        self.assertTrue(WatchedCrossing(Z, bound=3) == Crossing(Z))

    def test_other_values(self):
        for kind in BOTH:
            for value in [None, Z, R, Rule(Z), Bounds(Z), str(kind(Z)), kind, *any_values()]:
                self.assertFalse(kind(Z) == value)
                self.assertTrue(kind(Z) != value)


class TestSigns(CrossingCase):
    def test_lengths_and_texts(self):
        for kind, rest in ((Crossing, ""), (WatchedCrossing, ", passed over 0 0")):
            self.assert_same((len(kind(Z)), str(kind(Z))), (0, "0 cars, 0 waiting, 0 edits" + rest))
            self.assertEqual(str(kind.of(Z, 0)), "1 cars, 1 waiting, 0 edits" + rest)
            self.assertEqual(str(made(kind, Z, (0,), [("go",)])), "1 cars, 0 waiting, 1 edits" + rest)
            crossing = made(kind, Z, (), [("come", 1)] * 40 + [("go",)] * 20)
            self.assert_same((len(crossing), str(crossing)), (60, "40 cars, 20 waiting, 60 edits" + rest))

    def test_no_lane(self):
        for kind in BOTH:
            crossing = made(kind)
            for value in [None, 2, *any_values()]:
                error = self.assert_unchanged(crossing, NoLane(value), crossing, value)
                self.assertIs(error.value, value)
                self.assert_error(NoLane(value), kind(Z), value)

    def test_lanes(self):
        for kind in BOTH:
            self.assert_same([kind(ONE)(0), kind(turns_rule(6))(5)], [(), ()])
            crossing = kind.of(turns_rule(6), *[5] * 40)
            self.assert_same([crossing(5), crossing(0)], [tuple(range(40)), ()])

    def test_no_car(self):
        for kind in BOTH:
            crossing = made(kind)
            for value in [None, 9, *any_values()]:
                if value != 6 or value is True:
                    error = self.assert_unchanged(crossing, NoCar(value), crossing.__getitem__, value)
                    self.assertIs(error.value, value)
                self.assert_error(NoCar(value), kind(Z).__getitem__, value)
            self.assert_error(NoCar(6), crossing.__getitem__, 6)
            self.assert_error(NoCar(0), kind(Z).__getitem__, 0)

    def test_in(self):
        for kind in BOTH:
            crossing = kind.of(Z, *[0, 1] * 20)
            self.assertEqual([car for car in range(-3, 50) if car in crossing], list(range(40)))
            for value in [None, crossing, *any_values()]:
                expected = type(value) is int and 0 <= value < 40
                self.assertIs(value in crossing, expected)
                self.assertIs(value in kind(Z), False)

    def test_truth(self):
        for kind in BOTH:
            crossing = kind(Z)
            seen = [bool(crossing), crossing.come(0), bool(crossing), crossing.go(), bool(crossing), crossing.undo(),
                    bool(crossing)]
            self.assert_same(seen, [False, 1, True, 2, False, 1, True])

    def test_no_loop(self):
        for kind in BOTH:
            for crossing in (kind(Z), made(kind)):
                with self.assertRaises(TypeError):
                    list(crossing)
                with self.assertRaises(TypeError):
                    for car in crossing:
                        pass

    def test_random_crossings(self):
        draws = Draws(68)
        for kind in BOTH:
            for size in (1, 2, 6):
                rule, row = draws.rule(size), draws.row(size, 20)
                edits = [("go",)] * draws.below(21)
                check_crossing(self, made(kind, rule, row, edits), rule, row, edits, kind=kind)

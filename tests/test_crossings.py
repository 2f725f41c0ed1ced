"""[59] to [66]: crossings, their edits, undo, queries and properties."""

from inspect import isgenerator

from lanerules.crossings import Crossing, WatchedCrossing
from lanerules.errors import (Absent, BadRule, Empty, NoCar, NoLane, NothingToUndo, NoVersion, OtherLanes, TooLarge,
                              TooManyEdits)
from lanerules.rules import is_rule, ranks_rule, rule_error, turns_rule
from tests.crossing_model import check_crossing, shown_by
from tests.listing import Draws, passing_order, rows
from tests.samples import K, ONE, R, Z, ErrorCase, all_rules, any_values

BOTH = (Crossing, WatchedCrossing)
NO_RULES = [None, 0, (), ((0, 1), (1, 0)), ((0, 1), (1, True), (0, 1)), [(0,), (0,)], *any_values()]
QUERIES = ("current", "row", "waiting", "passed")


def full(kind, rule=Z):
    """A crossing before which 40 cars have come, without edits."""
    return kind.of(rule, *[k % len(rule[0]) for k in range(40)])


class CrossingCase(ErrorCase):
    def assert_unchanged(self, crossing, error, call, *args):
        before = repr(shown_by(crossing))
        raised = self.assert_error(error, call, *args)
        self.assertEqual(repr(shown_by(crossing)), before)
        return raised


class TestCreation(CrossingCase):
    def test_without_cars(self):
        for kind in BOTH:
            for rule in (ONE, Z, turns_rule(6)):
                check_crossing(self, kind(rule), rule, (), (), kind=kind)
                check_crossing(self, kind.of(rule), rule, (), (), kind=kind)

    def test_of_some_and_of_forty_cars(self):
        draws = Draws(60)
        for kind in BOTH:
            for size, cars in ((1, 1), (2, 5), (3, 39), (6, 40), (1, 40)):
                rule, row = draws.rule(size), draws.row(size, cars)
                check_crossing(self, kind.of(rule, *row), rule, row, (), kind=kind)

    def test_no_rule(self):
        for kind in BOTH:
            for value in NO_RULES:
                self.assert_error(BadRule(rule_error(value)), kind, value)
                self.assert_error(BadRule(rule_error(value)), kind.of, value)
                self.assert_error(BadRule(rule_error(value)), kind.of, value, 7, *range(50))

    def test_no_lane_and_too_many(self):
        for kind in BOTH:
            for value in [None, 2, *any_values()]:
                error = self.assert_error(NoLane(value), kind.of, Z, 0, 1, value, "another")
                self.assertIs(error.value, value)
                self.assert_error(NoLane(value), kind.of, Z, *[0] * 60, value)
            self.assert_error(TooLarge(40), kind.of, Z, *[0] * 41)
            self.assert_error(TooLarge(40), kind.of, Z, *[0, 1] * 1000)

    def test_limit(self):
        for kind in BOTH:
            self.assert_same((kind.LIMIT, kind(Z).LIMIT), (60, 60))

    def test_turned(self):
        for rule in [ONE, Z, K, turns_rule(6), *list(all_rules(3))[::100]]:
            expected = tuple(tuple(reversed(preference)) for preference in rule)
            self.assertTrue(is_rule(expected))
            for asked in (Crossing, WatchedCrossing, Crossing(Z), WatchedCrossing(Z)):
                self.assert_same(asked.turned(rule), expected)


class TestEdits(CrossingCase):
    def test_passings_against_all_rows(self):
        for rule in list(all_rules(2)):
            for row in rows(2, 4):
                for kind in BOTH:
                    crossing = kind.of(rule, *row)
                    for passed in range(1, 5):
                        self.assertEqual(crossing.go(), passed)
                    self.assert_same(crossing.passed(), passing_order(rule, row, "aaaapppp"))

    def test_versions_are_returned(self):
        for kind in BOTH:
            crossing = kind(Z)
            self.assert_same([crossing.come(0), crossing.come(1), crossing.go(), crossing.change(K), crossing.come_all(0, 0),
                              crossing.go_until(4 - 1), crossing.undo(), crossing.come_all(), crossing.attempt([("go",)])],
                             [1, 2, 3, 4, 6, 8, 7, 7, 8])

    def test_the_last_car_counts_after_a_change(self):
        for kind in BOTH:
            crossing = kind.of(Z, 0, 0, 1)
            crossing.go()
            crossing.change(((1, 0), (0, 1), (1, 0)))
            self.assert_same((crossing.previous, crossing.upcoming, crossing.go(), crossing.passed()), (0, 1, 3, (0, 1)))

    def test_come(self):
        for kind in BOTH:
            for value in [None, 2, *any_values()]:
                crossing = kind.of(Z, 0)
                error = self.assert_unchanged(crossing, NoLane(value), crossing.come, value)
                self.assertIs(error.value, value)
                self.assert_unchanged(full(kind), NoLane(value), full(kind).come, value)
            crossing = full(kind)
            self.assert_unchanged(crossing, TooLarge(40), crossing.come, 1)

    def test_go(self):
        for kind in BOTH:
            crossing = kind(Z)
            self.assert_unchanged(crossing, Empty(), crossing.go)
            crossing.come(1)
            crossing.go()
            self.assert_unchanged(crossing, Empty(), crossing.go)

    def test_change(self):
        for kind in BOTH:
            crossing = kind.of(Z, 0, 1)
            for value in NO_RULES:
                self.assert_unchanged(crossing, BadRule(rule_error(value)), crossing.change, value)
            for rule in (ONE, turns_rule(3), turns_rule(6)):
                self.assert_unchanged(crossing, OtherLanes(len(rule) - 1), crossing.change, rule)
            self.assertEqual(crossing.change(Z), 1)
            self.assert_same(crossing.edits(), (("change", Z),))

    def test_sixty_edits(self):
        for kind in BOTH:
            crossing = full(kind, ONE)
            edits = [("go",)] * 40 + [("change", ONE)] * 20
            for version, (name, *told) in enumerate(edits, start=1):
                self.assertEqual(getattr(crossing, name)(*told), version)
            check_crossing(self, crossing, ONE, (0,) * 40, edits, kind=kind)
            for call in (crossing.go, lambda: crossing.come(0), lambda: crossing.come(None), lambda: crossing.change(None),
                         lambda: crossing.change(ONE), lambda: crossing.come_all(None)):
                self.assert_unchanged(crossing, TooManyEdits(), call)
            self.assertEqual((crossing.come_all(), crossing.attempt([])), (60, 60))
            for version in range(59, -1, -1):
                self.assertEqual(crossing.undo(), version)
            check_crossing(self, crossing, ONE, (0,) * 40, [], kind=kind)
            self.assertEqual(crossing.change(ONE), 1)


class TestSeveral(CrossingCase):
    def test_come_all(self):
        for kind in BOTH:
            crossing = kind(Z)
            self.assertEqual(crossing.come_all(*R), 5)
            check_crossing(self, crossing, Z, (), [("come", lane) for lane in R], kind=kind)
            self.assertEqual(crossing.come_all(), 5)
            for value in [None, 2, *any_values()]:
                error = self.assert_unchanged(crossing, NoLane(value), crossing.come_all, 0, 1, value, 9)
                self.assertIs(error.value, value)
            self.assertEqual(crossing.come_all(*[0] * 35), 40)
            self.assert_unchanged(crossing, TooLarge(40), crossing.come_all, 1)
            self.assert_unchanged(crossing, NoLane(2), crossing.come_all, 2)

    def test_come_all_raises_the_first_error(self):
        for kind in BOTH:
            crossing = kind.of(Z, *[0] * 38)
            self.assert_unchanged(crossing, TooLarge(40), crossing.come_all, 0, 0, 0, 2)
            self.assert_unchanged(crossing, NoLane(2), crossing.come_all, 0, 0, 2, 0)
            for _ in range(59):
                crossing.change(Z)
            self.assert_unchanged(crossing, TooManyEdits(), crossing.come_all, 0, 2)
            self.assert_unchanged(crossing, NoLane(2), crossing.come_all, 2, 2)
            self.assertEqual(crossing.come_all(0), 60)

    def test_go_until(self):
        for kind in BOTH:
            for car in range(5):
                crossing = kind.of(Z, *R)
                order = passing_order(Z, R, "aaaaappppp")
                many = order.index(car) + 1
                self.assertEqual(crossing.go_until(car), many)
                check_crossing(self, crossing, Z, R, [("go",)] * many, kind=kind)

    def test_go_until_errors(self):
        for kind in BOTH:
            crossing = kind.of(Z, *R)
            crossing.go_until(2)
            for value in [None, 5, *any_values()]:
                error = self.assert_unchanged(crossing, NoCar(value), crossing.go_until, value)
                self.assertIs(error.value, value)
                self.assert_error(NoCar(value), kind(Z).go_until, value)
            self.assert_error(NoCar(0), kind(Z).go_until, 0)
            for car in (0, 2):
                error = self.assert_unchanged(crossing, Absent(car), crossing.go_until, car)
            for _ in range(56):
                crossing.change(Z)
            self.assert_unchanged(crossing, TooManyEdits(), crossing.go_until, 3)
            self.assert_unchanged(crossing, Absent(2), crossing.go_until, 2)
            self.assert_unchanged(crossing, NoCar(9), crossing.go_until, 9)
            self.assertEqual(crossing.go_until(4), 60)
            self.assert_unchanged(crossing, TooManyEdits(), crossing.go_until, 3)

    def test_forty_cars(self):
        for kind in BOTH:
            crossing = full(kind, ranks_rule(0, 1, 2, 3, 4, 5))
            last = list(crossing.foresee())[-1]
            self.assertEqual(crossing.go_until(last), 40)
            self.assert_same(crossing.waiting(), ())


class TestUndo(CrossingCase):
    def test_each_edit(self):
        for kind in BOTH:
            crossing = kind.of(Z, 0, 1)
            edits = [("go",), ("change", K), ("come", 1), ("go",), ("go",)]
            for name, *told in edits:
                getattr(crossing, name)(*told)
            for version in range(4, -1, -1):
                self.assertEqual(crossing.undo(), version)
                check_crossing(self, crossing, Z, (0, 1), edits[:version], kind=kind)
            self.assert_unchanged(crossing, NothingToUndo(), crossing.undo)

    def test_cars_of_the_creation_stay(self):
        for kind in BOTH:
            crossing = kind.of(Z, 0, 1)
            self.assert_unchanged(crossing, NothingToUndo(), crossing.undo)
            self.assert_error(NothingToUndo(), kind(ONE).undo)

    def test_come_all_and_go_until_are_undone_one_by_one(self):
        for kind in BOTH:
            crossing = kind(K)
            crossing.come_all(1, 0, 0)
            crossing.go_until(0)
            self.assert_same([crossing.undo(), crossing.passed(), crossing.undo(), crossing.undo(), crossing.undo()],
                             [5, (1, 2), 4, 3, 2])
            self.assert_same(crossing.row(), (1, 0))


class TestQueries(CrossingCase):
    def test_no_version(self):
        for kind in BOTH:
            crossing = kind.of(Z, 0, 0)
            crossing.go()
            for query in QUERIES:
                for value in [2, *any_values()]:
                    error = self.assert_error(NoVersion(value), lambda: getattr(crossing, query)(version=value))
                    self.assertIs(error.version, value)
                crossing.undo()
                self.assert_error(NoVersion(1), lambda: getattr(crossing, query)(version=1))
                crossing.go()
                getattr(crossing, query)(version=1)

    def test_versions_by_keyword_only(self):
        for kind in BOTH:
            for query in QUERIES:
                with self.assertRaises(TypeError):
                    getattr(kind(Z), query)(0)

    def test_properties_can_only_be_read(self):
        for kind in BOTH:
            crossing = kind.of(Z, 0)
            for name in ("cars", "length", "previous", "upcoming"):
                with self.assertRaises(AttributeError):
                    setattr(crossing, name, 1)
                with self.assertRaises(AttributeError):
                    delattr(crossing, name)
            check_crossing(self, crossing, Z, (0,), [], kind=kind)

    def test_results_do_not_change_later(self):
        crossing = Crossing.of(Z, 0, 0, 1)
        before = shown_by(crossing)
        text = repr(before)
        crossing.go()
        crossing.change(K)
        crossing.come(1)
        self.assertEqual(repr(before), text)


class TestForesee(CrossingCase):
    def test_how_many(self):
        for kind in BOTH:
            crossing = kind.of(Z, *R)
            for most in (0, 1, 2, 4, 5, 6, 40, 10 ** 39, None):
                self.assert_same(list(crossing.foresee(most=most)), [0, 2, 1, 4, 3][:most])
            check_crossing(self, crossing, Z, R, [], kind=kind)
            self.assert_same((list(kind(Z).foresee()), list(kind(Z).foresee(most=3))), ([], []))

    def test_it_is_a_generator(self):
        for kind in BOTH:
            walk = kind.of(Z, *R).foresee()
            self.assertTrue(isgenerator(walk))
            self.assertEqual([next(walk), next(walk)], [0, 2])

    def test_as_the_cars_pass(self):
        draws = Draws(61)
        for kind in BOTH:
            for _ in range(20):
                rule, row = draws.rule(6), draws.row(6, 40)
                crossing = kind.of(rule, *row)
                for _ in range(draws.below(20)):
                    crossing.go()
                ahead = list(crossing.foresee())
                self.assertEqual(len(ahead), crossing.length)
                while crossing:
                    self.assertEqual(crossing.upcoming, ahead.pop(0))
                    crossing.go()
                self.assertEqual((ahead, crossing.upcoming), ([], None))

    def test_queries_while_it_is_iterated(self):
        crossing = Crossing.of(Z, *R)
        seen = [(car, crossing.length, crossing.upcoming) for car in crossing.foresee()]
        self.assert_same(seen, [(car, 5, 0) for car in (0, 2, 1, 4, 3)])

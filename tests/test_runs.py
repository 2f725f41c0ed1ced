"""[50] to [54]: runs and rings for a lane, bounds, verdicts, and how lanes are favoured."""

from inspect import isgenerator
from itertools import product

from lanerules.errors import NoLane
from lanerules.fairness import (bound_of, each_ring, favoured, lane_bounds, lane_verdict, lane_verdict_holds, mending,
                                starving)
from lanerules.rules import is_rule, polite_rule, ranks_rule, turns_rule
from tests.listing import Draws
from tests.runs import goes, lanes, listed_bound, listed_rings, mild_rule, runs, some_rules
from tests.samples import K, ONE, Z, ErrorCase, all_rules, any_values

NO_LANES = [None, 2, *any_values()]
P = ((0, 1, 2), (1, 0, 2), (0, 1, 2), (0, 1, 2))


def first_ring(rule, lane):
    return next(each_ring(rule, lane))


class TestNoLane(ErrorCase):
    def test_each_function(self):
        calls = [bound_of, lane_verdict, first_ring, mending, lambda rule, lane: lane_verdict_holds(rule, lane, None),
                 lambda rule, lane: favoured(rule, lane, None), lambda rule, lane: favoured(rule, lane, 9)]
        for call in calls:
            for lane in NO_LANES:
                error = self.assert_error(NoLane(lane), call, Z, lane)
                self.assertIs(error.value, lane)
            for lane in (1, -1, True, False, None, "0"):
                self.assert_error(NoLane(lane), call, ONE, lane)
            for lane in (6, -1, "5", (5,)):
                self.assert_error(NoLane(lane), call, turns_rule(6), lane)

    def test_the_lane_is_looked_at_first(self):
        self.assert_error(NoLane(2), favoured, Z, 2, 3)
        self.assert_error(NoLane(3), favoured, Z, 1, 3)
        self.assert_error(NoLane(True), lane_verdict_holds, Z, True, ("ring", (0,)))


class TestBounds(ErrorCase):
    def test_against_the_listing(self):
        seen = set()
        for rule in some_rules():
            expected = tuple(listed_bound(rule, lane) for lane in lanes(rule))
            self.assert_same(lane_bounds(rule), expected)
            self.assert_same(tuple(bound_of(rule, lane) for lane in lanes(rule)), expected)
            self.assert_same(starving(rule), tuple(lane for lane in lanes(rule) if expected[lane] is None))
            seen.update(expected)
        self.assertEqual(seen, {None, 0, 1, 2, 3})

    def test_all_rules_of_three_lanes(self):
        for rule in all_rules(3):
            rings = [listed_rings(rule, lane) for lane in range(3)]
            self.assertEqual([bound is None for bound in lane_bounds(rule)], [len(found) > 0 for found in rings])

    def test_one_lane(self):
        self.assert_same((bound_of(ONE, 0), lane_bounds(ONE), starving(ONE)), (0, (0,), ()))

    def test_six_lanes(self):
        self.assert_same(lane_bounds(turns_rule(6)), (5,) * 6)
        self.assert_same(lane_bounds(ranks_rule(0, 1, 2, 3, 4, 5)), (0, None, None, None, None, None))
        self.assert_same(starving(ranks_rule(5, 0, 1, 2, 3, 4)), (0, 1, 2, 3, 4))
        self.assert_same(lane_bounds(polite_rule(0, 1, 2, 3, 4, 5)), (1, 2, None, None, None, None))
        self.assert_same(starving(turns_rule(6)), ())

    def test_a_bound_that_only_one_beginning_reaches(self):
        # The only lane that goes before lane 0 is lane 1, and only at the start, or only after lane 0 itself.
        for at in (0, 1):
            rule = [(0, 1)] * 3
            rule[at] = (1, 0)
            self.assert_same(bound_of(tuple(rule), 0), 1)
        self.assert_same(bound_of(((0, 1), (0, 1), (1, 0)), 0), None)

    def test_bounds_and_rings_exclude_each_other(self):
        draws = Draws(51)
        for size in (4, 5, 6):
            for _ in range(60):
                rule = draws.rule(size) if draws.below(2) else mild_rule(draws, size)
                for lane in range(size):
                    self.assertEqual(bound_of(rule, lane) is None, len(listed_rings(rule, lane)) > 0)


class TestVerdicts(ErrorCase):
    def rules(self):
        draws = Draws(52)
        return some_rules() + [mild_rule(draws, size) for size in (3, 4, 5, 6) for _ in range(15)]

    def test_the_verdict_is_right_by_the_definition(self):
        for rule in self.rules():
            for lane in lanes(rule):
                kind, *told = lane_verdict(rule, lane)
                self.assertIs(lane_verdict_holds(rule, lane, (kind, *told)), True)
                if kind == "ring":
                    self.assertIn(told[0], listed_rings(rule, lane))
                    continue
                self.assertEqual(kind, "bound")
                run, numbers = told
                self.assertEqual(len(run) - 1, bound_of(rule, lane))
                self.assertIn(run, runs(rule, lane, len(run) - 1))
                self.check_numbers(rule, lane, run, numbers)

    def check_numbers(self, rule, lane, run, numbers):
        self.assertEqual(len(numbers), len(rule))
        self.assertTrue(all(type(number) is int and 0 <= number < len(run) for number in numbers))
        for last, number in zip([None, *lanes(rule)], numbers):
            for other in lanes(rule):
                if other != lane and goes(rule, last, other, lane):
                    self.assertLess(numbers[1 + other], number)

    def test_smallest_and_largest(self):
        self.assert_same(lane_verdict(ONE, 0), ("bound", (None,), (0, 0)))
        self.assertEqual(lane_verdict(ranks_rule(0, 1, 2, 3, 4, 5), 5)[0], "ring")
        kind, run, numbers = lane_verdict(turns_rule(6), 3)
        self.assert_same((kind, len(run), len(numbers)), ("bound", 6, 7))

    def test_every_right_ring_holds_and_no_other(self):
        for rule in some_rules()[::5]:
            for lane in lanes(rule):
                rings = listed_rings(rule, lane)
                for size in range(4):
                    for value in product(lanes(rule), repeat=size):
                        self.assertIs(lane_verdict_holds(rule, lane, ("ring", value)), value in rings)

    def test_every_right_run_with_numbers_holds_and_no_other(self):
        for rule in [*all_rules(1), *all_rules(2)]:
            for lane in lanes(rule):
                bound = listed_bound(rule, lane)
                for size in range(4):
                    for run in product([None, *lanes(rule)], repeat=size):
                        for numbers in product(range(3), repeat=len(rule)):
                            right = self.is_right(rule, lane, run, numbers, bound)
                            self.assertIs(lane_verdict_holds(rule, lane, ("bound", run, numbers)), right)

    def is_right(self, rule, lane, run, numbers, bound):
        if len(run) == 0 or bound != len(run) - 1 or run not in runs(rule, lane, bound) or max(numbers) > bound:
            return False
        pairs = [(last, other) for last in [None, *lanes(rule)] for other in lanes(rule)
                 if other != lane and goes(rule, last, other, lane)]
        return all(numbers[1 + other] < numbers[0 if last is None else 1 + last] for last, other in pairs)

    def test_three_lanes_with_one_item_replaced(self):
        draws = Draws(53)
        for rule in [mild_rule(draws, 3) for _ in range(20)] + [turns_rule(3)]:
            for lane in range(3):
                if bound_of(rule, lane) is None:
                    continue
                kind, run, numbers = lane_verdict(rule, lane)
                for at in range(4):
                    for number in range(-1, 5):
                        other = (*numbers[:at], number, *numbers[at + 1:])
                        right = number >= 0 and self.is_right(rule, lane, run, other, len(run) - 1)
                        self.assertIs(lane_verdict_holds(rule, lane, (kind, run, other)), right)

    def test_wrong_values(self):
        right = [("bound", (None, 0), (1, 0, 1)), ("bound", (1, 0), (1, 0, 1))]
        for value in right:
            self.assertIs(lane_verdict_holds(Z, 1, value), True)
        wrong = [None, (), ("bound",), ("bound", (None, 0)), ("bound", (None, 0), (1, 0, 1), 0), ("ring",), ("ring", ()),
                 ("ring", (0,), ()), ("bound", [None, 0], (1, 0, 1)), ("bound", (None, 0), [1, 0, 1]),
                 ["bound", (None, 0), (1, 0, 1)], ("bound", (), (1, 0, 1)), ("bound", (None,), (1, 0, 1)),
                 ("bound", (None,), (0, 0, 0)), ("bound", (None, 0, 0), (1, 0, 1)), ("bound", (None, False), (1, 0, 1)),
                 ("bound", (True, 0), (1, 0, 1)), ("bound", (None, 0), (True, 0, 1)), ("bound", (None, 0), (1, False, 1)),
                 ("bound", (None, 0), (2, 0, 1)), ("bound", (None, 0), (1, 0)), ("bound", (None, 0), (1, 0, 1, 0)),
                 ("bound", (None, 1), (1, 0, 1)), ("bound", (None, 2), (1, 0, 1)), ("bound", (2, 0), (1, 0, 1)),
                 ("bound", (0, 0), (1, 0, 1)), ("bound", (None, None), (1, 0, 1)), ("Bound", (None, 0), (1, 0, 1)),
                 ("bound", (None, 0), (1, -1, 1)), ("ring", (None, 0), (1, 0, 1)), ("bound", (0,)), (None, (0,))]
        for value in [*wrong, *any_values()]:
            self.assertIs(lane_verdict_holds(Z, 1, value), False, value)
        self.assertIs(lane_verdict_holds(K, 1, ("ring", (0,))), True)
        for value in [(None, (0,)), ("bound", (0,)), ("Ring", (0,)), ("", (0,)), ("ring", (False,)), ("ring", (0, 0)),
                      ("ring", [0]), ("ring", (1,)), ("ring", (0, 1)), ("ring", 0),
                      ("bound", (None, 0), (1, 0, 1)), ("ring", (None,)), ("ring", ("0",)), ("ring", (-2,)), ("ring", (2,))]:
            self.assertIs(lane_verdict_holds(K, 1, value), False, value)

    def test_any_values_inside(self):
        for value in any_values():
            for told in [("ring", value), ("ring", (0, value)), ("bound", value, (1, 0, 1)), ("bound", (None, 0), value),
                         ("bound", (value, 0), (1, 0, 1)), ("bound", (None, value), (1, 0, 1)), (value, (0,)),
                         ("bound", (None, 0), (1, value, 1)), (value, (None, 0), (1, 0, 1))]:
                self.assertIs(lane_verdict_holds(Z, 1, told), False, told)


class TestRings(ErrorCase):
    def test_against_the_listing(self):
        draws = Draws(54)
        for rule in [*some_rules(), *[draws.rule(5) for _ in range(20)]]:
            for lane in lanes(rule):
                expected = sorted(ring for ring in listed_rings(rule, lane) if ring[0] == min(ring))
                self.assert_same(list(each_ring(rule, lane)), expected)

    def test_it_is_a_generator(self):
        self.assertTrue(isgenerator(each_ring(Z, 0)))

    def test_smallest_and_largest(self):
        self.assert_same(list(each_ring(ONE, 0)), [])
        self.assertEqual([len(list(each_ring(ranks_rule(0, 1, 2, 3, 4, 5), lane))) for lane in range(6)],
                         [0, 1, 3, 8, 24, 89])
        self.assert_same(list(each_ring(ranks_rule(3, 2, 1, 0), 0)),
                         [(1,), (1, 2), (1, 2, 3), (1, 3), (1, 3, 2), (2,), (2, 3), (3,)])


class TestFavoured(ErrorCase):
    def test_by_the_definition(self):
        for rule in some_rules()[::3]:
            for lane in lanes(rule):
                for last in [None, *lanes(rule)]:
                    made = favoured(rule, lane, last)
                    self.assertTrue(is_rule(made))
                    at = 0 if last is None else 1 + last
                    self.assertEqual(made[at][0], lane)
                    self.assertEqual(made[at][1:], tuple(other for other in rule[at] if other != lane))
                    self.assertEqual(made[:at] + made[at + 1:], rule[:at] + rule[at + 1:])

    def test_examples_of_three_lanes(self):
        self.assert_same(favoured(P, 2, 0), ((0, 1, 2), (2, 1, 0), (0, 1, 2), (0, 1, 2)))
        self.assert_same(favoured(P, 2, None), ((2, 0, 1), (1, 0, 2), (0, 1, 2), (0, 1, 2)))
        self.assert_same(favoured(P, 0, 2), P)
        self.assert_same(favoured(ONE, 0, 0), ONE)

    def test_last_that_is_no_lane(self):
        for last in [2, *any_values()]:
            error = self.assert_error(NoLane(last), favoured, Z, 0, last)
            self.assertIs(error.value, last)

    def test_mending_by_the_definition(self):
        seen = set()
        for rule in some_rules():
            for lane in lanes(rule):
                expected = tuple(last for last in lanes(rule)
                                 if listed_bound(favoured(rule, lane, last), lane) is not None)
                self.assert_same(mending(rule, lane), expected)
                seen.add(len(expected))
        self.assertEqual(seen, {0, 1, 2, 3, 4})

    def test_mending_of_one_and_of_six_lanes(self):
        self.assert_same(mending(ONE, 0), (0,))
        self.assert_same(mending(ranks_rule(0, 1, 2, 3, 4, 5), 1), (0,))
        self.assert_same(mending(ranks_rule(0, 1, 2, 3, 4, 5), 2), ())
        self.assert_same(mending(turns_rule(6), 2), (0, 1, 2, 3, 4, 5))

"""[9]: the lane that goes first."""

from itertools import product

from lanerules.errors import Empty, NoLane
from lanerules.rules import first_lane, turns_rule
from tests.samples import K, ONE, Z, ErrorCase, all_rules, any_values


class TestFirstLane(ErrorCase):
    def test_all_cases_of_two_and_three_lanes(self):
        for lanes in (2, 3):
            for rule in all_rules(lanes):
                for last in (None, *range(lanes)):
                    preference = rule[0 if last is None else 1 + last]
                    for waiting in product(range(lanes), repeat=2):
                        expected = sorted(waiting, key=preference.index)[0]
                        self.assert_same(first_lane(rule, last, *waiting), expected)

    def test_one_lane_alone(self):
        for rule in (Z, K):
            for last, lane in product((None, 0, 1), (0, 1)):
                self.assertEqual(first_lane(rule, last, lane), lane)
        self.assertEqual(first_lane(ONE, None, 0), 0)
        self.assertEqual(first_lane(ONE, 0, 0, 0, 0), 0)

    def test_repeated_and_in_any_order(self):
        rule = turns_rule(6)
        self.assertEqual(first_lane(rule, 3, 3, 2, 1, 1, 3), 1)
        self.assertEqual(first_lane(rule, 3, 1, 3, 5, 2, 5), 5)
        self.assertEqual(first_lane(rule, None, 5, 4, 4), 4)
        self.assertEqual(first_lane(rule, 5, *[5] * 50), 5)

    def test_last_is_no_lane(self):
        for last in [*any_values(), 2, (0, 1)]:
            error = self.assert_error(NoLane(last), first_lane, Z, last, 0)
            self.assertIs(error.value, last)

    def test_nobody_waits(self):
        for rule in (Z, ONE, turns_rule(6)):
            self.assert_error(Empty(), first_lane, rule, None)
            self.assert_error(Empty(), first_lane, rule, 0)

    def test_waiting_is_no_lane(self):
        for value in [*any_values(), None, 2, (0, 1)]:
            error = self.assert_error(NoLane(value), first_lane, Z, None, value)
            self.assertIs(error.value, value)
            self.assert_error(NoLane(value), first_lane, Z, 0, 0, 1, value, 9)

    def test_the_first_of_waiting_that_is_no_lane(self):
        self.assert_error(NoLane(True), first_lane, Z, None, 0, True, 9)
        self.assert_error(NoLane(9), first_lane, Z, None, 9, True)
        self.assert_error(NoLane(None), first_lane, Z, 1, 1, 1, None, -1)

    def test_the_order_of_the_errors(self):
        self.assert_error(NoLane(7), first_lane, Z, 7)
        self.assert_error(NoLane(False), first_lane, Z, False)
        self.assert_error(NoLane(7), first_lane, Z, 7, 8, 9)
        self.assert_error(NoLane("0"), first_lane, Z, "0", None)

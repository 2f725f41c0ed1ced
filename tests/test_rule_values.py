"""[4] to [7]: what is a rule, and what is a row of it."""

from itertools import product

from lanerules.rules import is_row, is_rule, ranks_rule, row_error, rule_error, turns_rule
from tests.samples import K, ONE, R, Z, ErrorCase, all_rules, any_values


class TestRuleError(ErrorCase):
    def check(self, value, error):
        self.assert_same(rule_error(value), error)
        self.assert_same(is_rule(value), error is None)

    def test_all_rules_of_up_to_three_lanes(self):
        for lanes in (1, 2, 3):
            for rule in all_rules(lanes):
                self.check(rule, None)

    def test_rules_of_one_to_six_lanes(self):
        for lanes in range(1, 7):
            first = tuple(range(lanes))
            self.check((first,) * (lanes + 1), None)
            self.check((first[::-1],) * (lanes + 1), None)

    def test_no_lanes_and_seven_lanes(self):
        self.check((), (None, "rule"))
        self.check(((),), (None, "rule"))
        self.check(((0,),), (None, "rule"))
        self.check((tuple(range(7)),) * 8, (None, "rule"))
        self.check((tuple(range(6)),) * 8, (None, "rule"))
        self.check((tuple(range(7)),) * 7, (0, "preference"))

    def test_too_few_and_too_many_preferences(self):
        self.check(((0, 1), (0, 1)), (0, "preference"))
        self.check(((0, 1),) * 4, (0, "preference"))
        self.check(((),) * 2, (0, "preference"))

    def test_a_wrong_preference_at_each_index(self):
        wrong = [(0, 1, 1), (0, 1), (0, 1, 2, 3), (0, 1, 3), (-1, 0, 1), (1, 2, 3), (0, True, 2),
                 (False, 1, 2), (0, 1, "2"), (0, 1, None), [0, 1, 2], (0, 1, (2,)), (0, 1, [2]),
                 {"0": 0, "1": 1, "2": 2}, "012", None, 3, True, (), (2, 2, 2), (0, 1, 2, 2), (0, 1, 2, 0)]
        for index, preference in product(range(4), wrong):
            rule = [(2, 1, 0)] * 4
            rule[index] = preference
            self.check(tuple(rule), (index, "preference"))

    def test_the_first_wrong_preference_is_told(self):
        self.check(((0, 1), (1, 1), [0, 1]), (1, "preference"))
        self.check(((0, 1), (1, 0), [0, 1]), (2, "preference"))
        self.check((None, (1, 1), [0, 1]), (0, "preference"))

    def test_lists_in_the_place_of_tuples(self):
        self.check([(0, 1), (1, 0), (0, 1)], (None, "rule"))
        self.check([(0,), (0,)], (None, "rule"))
        self.check(([0], (0,)), (0, "preference"))

    def test_bools_are_no_lanes(self):
        self.check(((0,), (False,)), (1, "preference"))
        self.check(((False,), (0,)), (0, "preference"))
        self.check(((0, 1), (1, 0), (0, True)), (2, "preference"))

    def test_any_value(self):
        for value in [*any_values(), None, 0, 1, "01 10 01"]:
            self.assertIs(is_rule(value), False)
            wrong = isinstance(value, tuple) and 2 <= len(value) <= 7
            self.assertEqual(rule_error(value)[1], "preference" if wrong else "rule")

    def test_any_value_as_a_preference(self):
        for value in [*any_values(), None, 0]:
            self.check((value, (0,)), (0, "preference"))
            self.check(((0, 1), value, (0, 1)), (1, "preference"))


class TestRowError(ErrorCase):
    def check(self, rule, value, error):
        self.assert_same(row_error(rule, value), error)
        self.assert_same(is_row(rule, value), error is None)

    def test_all_short_rows(self):
        for lanes in range(1, 7):
            rule = turns_rule(lanes)
            for cars in (1, 2, 3):
                for row in product(range(lanes), repeat=cars):
                    self.check(rule, row, None)

    def test_as_many_cars_as_allowed(self):
        self.check(Z, (1,), None)
        self.check(Z, (0, 1) * 20, None)
        self.check(Z, (0,) * 41, (None, "row"))
        self.check(Z, (9,) * 41, (None, "row"))
        self.check(Z, (), (None, "row"))

    def test_lanes_that_the_rule_does_not_have(self):
        for lanes in range(1, 7):
            rule = ranks_rule(*range(lanes))
            self.check(rule, (lanes - 1, lanes), (1, "lane"))
            self.check(rule, (-1,), (0, "lane"))
            self.check(rule, (0,) * 39 + (lanes,), (39, "lane"))

    def test_the_first_wrong_lane_is_told(self):
        self.check(Z, (0, None, 5), (1, "lane"))
        self.check(Z, (0, 1, 5, None), (2, "lane"))

    def test_bools_are_no_lanes(self):
        self.check(Z, (0, True), (1, "lane"))
        self.check(ONE, (False,), (0, "lane"))

    def test_lists_in_the_place_of_tuples(self):
        self.check(Z, [0, 0, 1], (None, "row"))
        self.check(Z, [0], (None, "row"))
        self.check(Z, (0, [0]), (1, "lane"))

    def test_any_value(self):
        for value in [*any_values(), None, 0, "aapp"]:
            self.assertIs(is_row(K, value), False)
            wrong = isinstance(value, tuple) and len(value) > 0
            self.assertEqual(row_error(K, value)[1], "lane" if wrong else "row")

    def test_any_value_as_a_lane(self):
        for value in [*any_values(), None, 2]:
            self.check(K, (0, 1, value), (2, "lane"))

    def test_the_row_of_the_document(self):
        self.check(Z, R, None)
        self.check(ONE, R, (2, "lane"))

"""[13]: the class Rule."""

from itertools import product

from lanerules.errors import BadRule, Empty, NoLane
from lanerules.rules import Rule, first_lane, rule_error, turns_rule
from tests.samples import K, ONE, Z, ErrorCase, all_rules, any_values


class TestRule(ErrorCase):
    def test_bad_rules(self):
        for value in [*any_values(), None, 0, list(Z), ((0,), (False,)), ((0,),), ()]:
            self.assert_error(BadRule(rule_error(value)), Rule, value)
        self.assert_error(BadRule((None, "rule")), Rule, (tuple(range(7)),) * 8)
        self.assert_error(BadRule((2, "preference")), Rule, ((0, 1), (1, 0), (0, 0)))
        self.assert_error(BadRule((None, "rule")), Rule, Rule(Z))

    def test_its_properties(self):
        for lanes in range(1, 7):
            rule = Rule(turns_rule(lanes))
            self.assert_same(rule.table, turns_rule(lanes))
            self.assert_same(rule.lanes, lanes)

    def test_its_properties_can_only_be_read(self):
        rule = Rule(Z)
        with self.assertRaises(AttributeError):
            rule.table = K
        with self.assertRaises(AttributeError):
            rule.lanes = 3
        with self.assertRaises(AttributeError):
            del rule.table
        with self.assertRaises(AttributeError):
            del rule.lanes
        self.assertEqual((rule.table, rule.lanes), (Z, 2))


class TestCall(ErrorCase):
    def test_it_is_what_first_lane_returns(self):
        for table in all_rules(2):
            rule = Rule(table)
            for last, waiting in product((None, 0, 1), [(0,), (1,), (0, 1), (1, 0), (1, 1, 0)]):
                self.assert_same(rule(last, waiting), first_lane(table, last, *waiting))

    def test_its_errors(self):
        rule = Rule(Z)
        self.assert_error(NoLane(2), rule, 2, ())
        self.assert_error(NoLane(True), rule, True, (None,))
        self.assert_error(Empty(), rule, 0, ())
        self.assert_error(NoLane(None), rule, None, (0, None, 7))
        self.assertEqual(rule(0, (0, 1)), 1)

    def test_any_values(self):
        rule = Rule(Z)
        for value in any_values():
            error = self.assert_error(NoLane(value), rule, value, (0,))
            self.assertIs(error.value, value)
            error = self.assert_error(NoLane(value), rule, None, (0, value))
            self.assertIs(error.value, value)


class TestIndex(ErrorCase):
    def test_each_preference(self):
        for table in all_rules(2):
            rule = Rule(table)
            self.assertEqual((rule[None], rule[0], rule[1]), table)
        rule = Rule(turns_rule(6))
        self.assertEqual(rule[5], (0, 1, 2, 3, 4, 5))
        self.assertEqual(rule[4], (5, 0, 1, 2, 3, 4))

    def test_no_lanes(self):
        rule = Rule(Z)
        for value in [*any_values(), 2, 3, (0, 1)]:
            error = self.assert_error(NoLane(value), rule.__getitem__, value)
            self.assertIs(error.value, value)
        with self.assertRaises(NoLane):
            rule[-1]
        with self.assertRaises(NoLane):
            Rule(ONE)[1]


class TestIn(ErrorCase):
    def test_all_triples_of_two_and_three_lanes(self):
        for lanes in (2, 3):
            for table in list(all_rules(lanes))[::5]:
                rule = Rule(table)
                for last, one, other in product((None, *range(lanes)), range(lanes), range(lanes)):
                    preference = table[0 if last is None else 1 + last]
                    expected = preference.index(one) < preference.index(other)
                    self.assertIs((last, one, other) in rule, expected)

    def test_no_lane_goes_before_itself(self):
        for last in (None, 0, 1):
            self.assertNotIn((last, 0, 0), Rule(Z))
        self.assertNotIn((None, 0, 0), Rule(ONE))

    def test_wrong_values(self):
        rule = Rule(Z)
        wrong = [[None, 0, 1], (None, 0), (None, 0, 1, 1), (0, 1), (None, 0, True), (None, False, 1),
                 (True, 0, 1), (False, 1, 0), (2, 0, 1), (-1, 0, 1), (None, 0, 2), (None, 2, 1),
                 (None, -1, 1), (None, 0, None), (None, None, 1), ("0", 1, 0), ((0,), 1, 0),
                 (0, [1], 0), "001", 0, None, Z, rule]
        for value in wrong + any_values():
            self.assertIs(value in rule, False)

    def test_any_value_inside(self):
        rule = Rule(Z)
        for value in any_values():
            self.assertNotIn((value, 0, 1), rule)
            self.assertNotIn((value, 1, 0), rule)
            self.assertNotIn((None, value, 1), rule)
            self.assertNotIn((None, 0, value), rule)
            self.assertNotIn((value, value, value), rule)


class TestEqual(ErrorCase):
    def test_equal_tables(self):
        tables = list(all_rules(2))
        for one, other in product(tables, tables):
            self.assertIs(Rule(one) == Rule(other), one == other)
            self.assertIs(Rule(one) != Rule(other), one != other)

    def test_other_numbers_of_lanes(self):
        self.assertNotEqual(Rule(turns_rule(1)), Rule(turns_rule(2)))

    def test_other_values(self):
        rule = Rule(Z)
        for value in [*any_values(), None, 0, Z, "01 10 01", [rule], (rule,)]:
            self.assertIs(rule == value, False)
            self.assertIs(value == rule, False)
            self.assertIs(rule != value, True)


class TestLoop(ErrorCase):
    def test_a_loop_raises_type_error(self):
        rule = Rule(Z)
        with self.assertRaises(TypeError):
            for _ in rule:
                self.fail("a rule was iterated over")
        for call in (iter, list, tuple, sorted):
            with self.assertRaises(TypeError):
                call(rule)
        with self.assertRaises(TypeError):
            first, *rest = rule
        self.assertEqual(rule.table, Z)

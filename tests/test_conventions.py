"""[3] and [80]: what holds for all functions, and the names and arguments of the interface."""

from copy import deepcopy
from inspect import isclass, isfunction, signature

from lanerules import rules
from lanerules.errors import PassError
from lanerules.rules import Rule
from tests.samples import R, Z, ErrorCase, any_values

SIGNATURES = {
    "is_rule": "(value)", "rule_error": "(value)", "is_row": "(rule, value)",
    "row_error": "(rule, value)", "ranks_rule": "(*lanes)", "polite_rule": "(*lanes)",
    "turns_rule": "(count)", "first_lane": "(rule, last, *waiting)", "word_error": "(row, value)",
    "is_history": "(row, value)", "run": "(rule, row, word)", "order_of": "(rule, row, word)",
    "each_step": "(rule, row, word)", "Rule": "(value)",
}


def steps(rule, row, word):
    return list(rules.each_step(rule, row, word))


def calls(value):
    """All calls that accept any value, with this one in its place."""
    return [
        (rules.is_rule, value), (rules.rule_error, value), (rules.Rule, value),
        (rules.is_row, Z, value), (rules.row_error, Z, value),
        (rules.ranks_rule, value), (rules.ranks_rule, 0, value), (rules.polite_rule, value, 0),
        (rules.turns_rule, value), (rules.first_lane, Z, value, 0), (rules.first_lane, Z, 0, value),
        (rules.word_error, R, value), (rules.is_history, R, value),
        (rules.run, Z, R, value), (rules.order_of, Z, R, value), (steps, Z, R, value),
        (Rule(Z), value, (0, 1)), (Rule(Z), None, (0, value)), (Rule(Z).__getitem__, value),
        (Rule(Z).__contains__, value), (Rule(Z).__contains__, (None, value, 1)),
        (Rule(Z).__eq__, value),
    ]


def result(call, *args):
    """What the call returns, or the error of this package that it raises."""
    try:
        return ("returned", repr(call(*args)) if call != Rule else call(*args).table)
    except PassError as error:
        return ("raised", error.__class__.__name__, repr(vars(error)))


class TestConventions(ErrorCase):
    def test_only_errors_of_the_package_are_raised(self):
        for value in [*any_values(), None, 0, Z, R, "aaap", Rule(Z)]:
            for call in calls(value):
                self.assertIn(result(*call)[0], ("returned", "raised"))

    def test_arguments_are_not_changed(self):
        for value in [*any_values(), None, 0, Z, R, "aaap"]:
            before = deepcopy(value)
            for call in calls(value):
                result(*call)
                self.assert_same(value, before)

    def test_equal_calls_return_equal_results(self):
        for one, other in zip(any_values(), any_values()):
            for call, again in zip(calls(one), calls(other)):
                self.assertEqual(result(*call), result(*again))

    def test_a_call_that_raises_an_error_changes_nothing(self):
        rule = Rule(Z)
        for value in any_values():
            with self.assertRaises(PassError):
                rule(value, (0, 1))
            with self.assertRaises(PassError):
                rule(0, (value,))
            with self.assertRaises(PassError):
                rule[value]
            self.assertEqual((rule.table, rule.lanes, rule == Rule(Z)), (Z, 2, True))

    def test_later_changes_to_an_argument_have_no_effect(self):
        lanes = [0, 1, 2]
        made = (rules.ranks_rule(*lanes), rules.polite_rule(*lanes))
        before = repr(made)
        lanes.reverse()
        self.assertEqual(repr(made), before)

    def test_results_are_tuples(self):
        made = [rules.ranks_rule(1, 0), rules.polite_rule(1, 0), rules.turns_rule(2)]
        for rule in made:
            self.assertTrue(all(isinstance(item, tuple) for item in (rule, *rule)))
        for value in (rules.run(Z, R, "aap"), *rules.run(Z, R, "aap"), rules.order_of(Z, (0,), "ap")):
            self.assertIsInstance(value, tuple)
        for step in steps(Z, R, "aap"):
            self.assertIsInstance(step, tuple)
            self.assertIsInstance(step[2], tuple)
        for error in (rules.rule_error(0), rules.row_error(Z, 0), rules.word_error(R, "x")):
            self.assertIsInstance(error, tuple)

    def test_bools_are_no_integers(self):
        self.assertFalse(rules.is_rule(((False,), (False,))))
        self.assertFalse(rules.is_row(Z, (False, True)))
        self.assert_error(rules.NoCount(True), rules.turns_rule, True)
        self.assert_error(rules.NoLane(False), rules.first_lane, Z, False, 0)
        self.assert_error(rules.NoLane(True), rules.first_lane, Z, None, True)
        self.assert_error(rules.NoPreference(), rules.ranks_rule, False, True)
        self.assertNotIn((None, False, True), Rule(Z))


class TestInterface(ErrorCase):
    def test_names_and_arguments(self):
        for name, expected in SIGNATURES.items():
            found = getattr(rules, name)
            self.assertEqual(str(signature(found)), expected, name)
            self.assertEqual(found.__module__, "lanerules.rules")
            self.assertTrue(isclass(found) if name == "Rule" else isfunction(found))

    def test_what_the_class_defines_itself(self):
        for name in ("__call__", "__getitem__", "__contains__", "__eq__", "__iter__"):
            self.assertTrue(isfunction(vars(Rule)[name]))
        self.assertEqual(str(signature(Rule.__call__)), "(self, last, waiting)")
        for name in ("table", "lanes"):
            self.assertIsInstance(vars(Rule)[name], property)

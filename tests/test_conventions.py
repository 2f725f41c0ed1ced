"""[3] and [80]: what holds for all functions, and the names and arguments of the interface."""

from copy import deepcopy
from inspect import isclass, isfunction, signature

from lanerules import histories, learning, orders, rules
from lanerules.errors import PassError
from lanerules.learning import Learned
from lanerules.orders import Orders
from lanerules.rules import Rule
from tests.calls import O, calls, steps
from tests.samples import R, Z, ErrorCase, any_values
from tests.watched import D, E, F

SIGNATURES = {
    rules: {
        "is_rule": "(value)", "rule_error": "(value)", "is_row": "(rule, value)",
        "row_error": "(rule, value)", "ranks_rule": "(*lanes)", "polite_rule": "(*lanes)",
        "turns_rule": "(count)", "first_lane": "(rule, last, *waiting)", "word_error": "(row, value)",
        "is_history": "(row, value)", "run": "(rule, row, word)", "order_of": "(rule, row, word)",
        "each_step": "(rule, row, word)", "Rule": "(value)",
    },
    orders: {
        "is_order": "(row, value)", "is_possible": "(rule, row, order)", "overtaken": "(row, order)",
        "rivals": "(rule, row, order)", "clashes": "(rule, row, order)", "verdict": "(rule, row, order)",
        "verdict_holds": "(rule, row, order, value)", "bounds_of": "(rule, row, order)",
        "possible_by": "(row, order, *rules)", "each_possible": "(rule, row)",
        "possible_orders": "(rule, row)", "Orders": "(rule, row)",
    },
    learning: {
        "day_error": "(lanes, value)", "is_day": "(lanes, value)", "pairs_told": "(lanes, *days)",
        "explains": "(rule, *days)", "explanation": "(lanes, *days)",
        "explanation_holds": "(value, lanes, *days)", "count_rules": "(lanes, *days)",
        "rule_at": "(index, lanes, *days)", "rule_index": "(value, lanes, *days)",
        "each_rule": "(lanes, *days, index=0)", "follows": "(pair, lanes, *days)",
        "sure_pairs": "(lanes, *days)", "open_pairs": "(lanes, *days)", "halves": "(pair, lanes, *days)",
        "first_contradicted": "(lanes, *days)", "needless_days": "(lanes, *days)",
        "foretold": "(row, word, lanes, *days)", "Learned": "(lanes, *days)",
    },
    histories: {
        "counts_of": "(row, word)", "word_from": "(*counts)", "earliest": "(rule, row, order)",
        "latest": "(rule, row, order)", "count_histories": "(rule, row, order)",
        "history_at": "(rule, row, order, index)", "history_index": "(rule, row, order, word)",
        "each_history": "(rule, row, order, *, start=0)",
        "waits_at_arrival": "(rule, row, order, one, other)",
        "waits_at_passing": "(rule, row, order, one, other)", "longest_line": "(rule, row, order)",
        "longest_in_lane": "(rule, row, order, lane)", "merged": "(rule, row, *words, most=False)",
        "is_wish": "(row, value)", "meeting": "(rule, row, order, *wishes)",
        "count_meeting": "(rule, row, order, *wishes)",
        "wish_follows": "(rule, row, order, wish, *wishes)",
    },
}
CLASSES = {"Rule": Rule, "Orders": Orders, "Learned": Learned}
METHODS = {
    Rule: {"__call__": "(self, last, waiting)", "__getitem__": None, "__contains__": None, "__eq__": None,
           "__iter__": "(self)"},
    Orders: {"__len__": "(self)", "__contains__": None, "__getitem__": None, "place_of": "(self, order)",
             "__iter__": "(self)"},
    Learned: {"__call__": "(self, row, word)", "__getitem__": None, "__contains__": None,
              "__add__": "(self, other)", "implies": "(self, other)", "__eq__": "(self, other)",
              "__len__": "(self)", "__bool__": "(self)", "__str__": "(self)", "__iter__": "(self)"},
}
PROPERTIES = {Rule: ("table", "lanes"), Orders: (), Learned: ("lanes", "days", "rules_left")}


def shown(value):
    """Values as repr shows them; objects of the package by what they hold."""
    if isinstance(value, (Rule, Learned, Orders)):
        return (value.__class__.__name__, repr(vars(value)))
    return repr(value)


def result(call, *args):
    """What the call returns, or the error of this package that it raises."""
    try:
        return ("returned", shown(call(*args)))
    except PassError as error:
        return ("raised", error.__class__.__name__, [shown(value) for value in vars(error).values()])


def right_values():
    """Values that are right in some places."""
    return [None, 0, 1, 2, 3, Z, R, O, E, D, "aaap", "aapp", "apapapapap", (0, 1), (0, 0, 1), (0, 1, 0), ("before", 0, 1),
            ("rule", Z), ("ring", 0, (0, 1)), ("history", "aaaaappppp"), ("overtaken", 1), ("clash", 0, 1)]


def objects():
    return [Rule(Z), Orders(Z, R), Learned(2, E)]


class TestConventions(ErrorCase):
    def test_only_errors_of_the_package_are_raised(self):
        for value in [*any_values(), *right_values(), *objects()]:
            for call in calls(value):
                self.assertIn(result(*call)[0], ("returned", "raised"))

    def test_arguments_are_not_changed(self):
        for value in [*any_values(), *right_values()]:
            before = deepcopy(value)
            for call in calls(value):
                result(*call)
            self.assert_same(value, before)

    def test_objects_are_not_changed(self):
        for value, before in zip(objects(), objects()):
            for call in calls(value):
                result(*call)
            self.assertEqual(shown(value), shown(before))

    def test_equal_calls_return_equal_results(self):
        values = zip([*any_values(), *right_values()], [*any_values(), *right_values()])
        for one, other in values:
            for call, again in zip(calls(one), calls(other)):
                self.assertEqual(result(*call), result(*again))

    def test_a_call_that_raises_an_error_changes_nothing(self):
        made = objects()
        rule, listed, learned = made
        wrong = [lambda value: rule(value, (0, 1)), lambda value: rule(0, (value,)), lambda value: rule[value],
                 lambda value: listed[value], lambda value: listed.place_of(value), lambda value: learned[value],
                 lambda value: learned(value, "aapp"), lambda value: learned((0, 1), value)]
        before = [shown(value) for value in made]
        for value in [*any_values(), "0", (0, 7), 9]:
            for call in wrong:
                with self.assertRaises(PassError):
                    call(value)
        with self.assertRaises(PassError):
            learned + Learned(3)
        self.assertEqual([shown(value) for value in made], before)

    def test_later_changes_to_an_argument_have_no_effect(self):
        lanes, days = [0, 1, 2], [E, D]
        made = (rules.ranks_rule(*lanes), rules.polite_rule(*lanes))
        learned, walk = Learned(2, *days), learning.each_rule(2, *days)
        before = (repr(made), shown(learned))
        lanes.reverse()
        days[:] = [F, F]
        self.assertEqual((repr(made), shown(learned)), before)
        self.assertEqual(list(walk), [Z])

    def test_bools_are_no_integers(self):
        self.assertFalse(rules.is_rule(((False,), (False,))))
        self.assertFalse(rules.is_row(Z, (False, True)))
        self.assert_error(rules.NoCount(True), rules.turns_rule, True)
        self.assert_error(rules.NoLane(False), rules.first_lane, Z, False, 0)
        self.assert_error(rules.NoLane(True), rules.first_lane, Z, None, True)
        self.assert_error(rules.NoPreference(), rules.ranks_rule, False, True)
        self.assertNotIn((None, False, True), Rule(Z))
        self.assertFalse(orders.is_order((0, 1), (False, True)))
        self.assert_error(orders.NoOrder(), orders.is_possible, Z, (0, 1), (0, True))
        self.assert_error(learning.NoCount(True), learning.count_rules, True)
        self.assertFalse(learning.is_day(2, ((0, True), "aapp", (0, 1))))
        self.assertFalse(histories.is_wish(R, ("before", False, True)))


class TestKinds(ErrorCase):
    """What is returned is made of tuples, strings, integers, True, False and None."""

    def check(self, value):
        if isinstance(value, tuple):
            for item in value:
                self.check(item)
        else:
            self.assertIn(type(value), (int, str, bool, type(None)), value)

    def test_results_are_tuples(self):
        made = [rules.ranks_rule(1, 0), rules.polite_rule(1, 0), rules.turns_rule(2), rules.run(Z, R, "aap"),
                rules.order_of(Z, (0,), "ap"), *steps(Z, R, "aap"), rules.rule_error(0), rules.row_error(Z, 0),
                rules.word_error(R, "x")]
        made += [orders.overtaken(R, O), orders.rivals(Z, R, O), orders.clashes(Z, R, (0, 1, 3, 2, 4)),
                 orders.verdict(Z, R, O), orders.verdict(Z, R, (1, 0, 2, 3, 4)), orders.verdict(Z, R, (0, 1, 3, 2, 4)),
                 orders.bounds_of(Z, R, O), orders.possible_by(R, O, Z), orders.possible_orders(Z, R),
                 Orders(Z, R)[0], next(orders.each_possible(Z, R))]
        made += [learning.pairs_told(2, D), learning.explanation(2, D), learning.explanation(2, E, F),
                 learning.rule_at(0, 2, E), next(learning.each_rule(2, E)), learning.sure_pairs(2, E),
                 learning.open_pairs(2, E), learning.halves((0, 0, 1), 2, E), learning.needless_days(2, E, E),
                 learning.foretold((0, 1), "aapp", 2, E), Learned(2, E)[0], Learned(2, E).days]
        made += [histories.counts_of(R, "apapapapap"), histories.longest_line(Z, R, O),
                 histories.longest_in_lane(Z, R, O, 0)]
        for value in made:
            self.assertIsInstance(value, tuple)
            self.check(value)


class TestInterface(ErrorCase):
    def test_names_and_arguments(self):
        for module, names in SIGNATURES.items():
            for name, expected in names.items():
                found = getattr(module, name)
                self.assertEqual(str(signature(found)), expected, name)
                self.assertEqual(found.__module__, module.__name__)
                self.assertTrue(isclass(found) if name in CLASSES else isfunction(found))

    def test_what_the_classes_define_themselves(self):
        for kind, names in METHODS.items():
            for name, expected in names.items():
                self.assertTrue(isfunction(vars(kind)[name]), name)
                if expected is not None:
                    self.assertEqual(str(signature(vars(kind)[name])), expected)
            for name in PROPERTIES[kind]:
                self.assertIsInstance(vars(kind)[name], property)

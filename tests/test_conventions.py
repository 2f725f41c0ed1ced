"""[3] and [80]: what holds for all functions, and the names and arguments of the interface."""

from copy import deepcopy
from inspect import isclass, isfunction, signature

from lanerules import crossings, fairness, histories, learning, orders, rules, shells, texts
from lanerules.crossings import Crossing, WatchedCrossing
from lanerules.errors import PassError
from lanerules.fairness import Bounds
from lanerules.learning import Learned
from lanerules.orders import Orders
from lanerules.rules import Rule
from lanerules.shells import Shell
from tests.calls import O, calls, rings, steps
from tests.crossing_model import shown_by
from tests.samples import K, R, Z, ErrorCase, any_values
from tests.watched import D, E, F

SIGNATURES = {
    rules: {
        "is_rule": "(value)", "rule_error": "(value)", "is_row": "(rule, value)",
        "row_error": "(rule, value)", "ranks_rule": "(*lanes)", "polite_rule": "(*lanes)",
        "turns_rule": "(count)", "first_lane": "(rule, last, *waiting)", "word_error": "(row, value)",
        "is_history": "(row, value)", "run": "(rule, row, word)", "order_of": "(rule, row, word)",
        "each_step": "(rule, row, word)", "Rule": "(value)",
    },
    orders: {
        "is_order": "(row, value)", "is_possible": "(rule, row, order)", "overtaken": "(row, order)",
        "rivals": "(rule, row, order)", "clashes": "(rule, row, order)", "verdict": "(rule, row, order)",
        "verdict_holds": "(rule, row, order, value)", "bounds_of": "(rule, row, order)",
        "possible_by": "(row, order, *rules)", "each_possible": "(rule, row)",
        "possible_orders": "(rule, row)", "Orders": "(rule, row)",
    },
    learning: {
        "day_error": "(lanes, value)", "is_day": "(lanes, value)", "pairs_told": "(lanes, *days)",
        "explains": "(rule, *days)", "explanation": "(lanes, *days)",
        "explanation_holds": "(value, lanes, *days)", "count_rules": "(lanes, *days)",
        "rule_at": "(index, lanes, *days)", "rule_index": "(value, lanes, *days)",
        "each_rule": "(lanes, *days, index=0)", "follows": "(pair, lanes, *days)",
        "sure_pairs": "(lanes, *days)", "open_pairs": "(lanes, *days)", "halves": "(pair, lanes, *days)",
        "first_contradicted": "(lanes, *days)", "needless_days": "(lanes, *days)",
        "foretold": "(row, word, lanes, *days)", "Learned": "(lanes, *days)",
    },
    histories: {
        "counts_of": "(row, word)", "word_from": "(*counts)", "earliest": "(rule, row, order)",
        "latest": "(rule, row, order)", "count_histories": "(rule, row, order)",
        "history_at": "(rule, row, order, index)", "history_index": "(rule, row, order, word)",
        "each_history": "(rule, row, order, *, start=0)",
        "waits_at_arrival": "(rule, row, order, one, other)",
        "waits_at_passing": "(rule, row, order, one, other)", "longest_line": "(rule, row, order)",
        "longest_in_lane": "(rule, row, order, lane)", "merged": "(rule, row, *words, most=False)",
        "is_wish": "(row, value)", "meeting": "(rule, row, order, *wishes)",
        "count_meeting": "(rule, row, order, *wishes)",
        "wish_follows": "(rule, row, order, wish, *wishes)",
    },
    fairness: {
        "bound_of": "(rule, lane)", "lane_bounds": "(rule)", "lane_verdict": "(rule, lane)",
        "lane_verdict_holds": "(rule, lane, value)", "starving": "(rule)", "each_ring": "(rule, lane)",
        "favoured": "(rule, lane, last)", "mending": "(rule, lane)", "waits": "(rule, row, word)",
        "passed_over": "(rule, row, word)", "worst_day": "(rule, lane, count)", "telling_day": "(rule, other)",
        "telling_days": "(rule, *others)", "Bounds": "(rule)",
    },
    crossings: {"Crossing": "(rule)", "WatchedCrossing": "(rule, *, bound=None)"},
    texts: {
        "rule_text": "(rule)", "parse_rule": "(value)", "numbers_text": "(numbers)", "parse_numbers": "(value, limit)",
    },
    shells: {"Shell": "(crossing)"},
}
CLASSES = {"Rule": Rule, "Orders": Orders, "Learned": Learned, "Bounds": Bounds, "Crossing": Crossing,
           "WatchedCrossing": WatchedCrossing, "Shell": Shell}
OF_CROSSINGS = {
    "come": "(self, lane)", "go": "(self)", "change": "(self, rule)", "come_all": "(self, *lanes)",
    "go_until": "(self, car)", "undo": "(self)", "current": "(self, *, version=None)", "row": "(self, *, version=None)",
    "waiting": "(self, *, version=None)", "passed": "(self, *, version=None)", "edits": "(self)", "word": "(self)",
    "foresee": "(self, *, most=None)", "attempt": "(self, batch, *, on_step=None)", "copy": "(self)",
    "__len__": "(self)", "__eq__": "(self, other)", "__str__": "(self)", "__call__": "(self, lane)", "__contains__": None,
    "__getitem__": None, "__bool__": "(self)", "__iter__": "(self)",
}
METHODS = {
    Rule: {"__call__": "(self, last, waiting)", "__getitem__": None, "__contains__": None, "__eq__": None,
           "__iter__": "(self)"},
    Orders: {"__len__": "(self)", "__contains__": None, "__getitem__": None, "place_of": "(self, order)",
             "__iter__": "(self)"},
    Learned: {"__call__": "(self, row, word)", "__getitem__": None, "__contains__": None,
              "__add__": "(self, other)", "implies": "(self, other)", "__eq__": "(self, other)",
              "__len__": "(self)", "__bool__": "(self)", "__str__": "(self)", "__iter__": "(self)"},
    Bounds: {"__getitem__": None, "__contains__": None, "__bool__": "(self)", "__len__": "(self)",
             "at_most": "(self, other)", "__eq__": "(self, other)", "__str__": "(self)", "__iter__": "(self)"},
    Crossing: OF_CROSSINGS,
    WatchedCrossing: OF_CROSSINGS,
    Shell: {"execute": "(self, value)", "__call__": "(self, value)", "transcript": "(self)"},
}
PROPERTIES = {Rule: ("table", "lanes"), Orders: (), Learned: ("lanes", "days", "rules_left"), Bounds: (),
              Crossing: ("cars", "length", "previous", "upcoming"),
              WatchedCrossing: ("cars", "length", "previous", "upcoming", "overs", "bound"), Shell: ("last",)}


def shown(value):
    """Values as repr shows them; objects of the package by what they hold."""
    if isinstance(value, (Rule, Learned, Orders, Bounds)):
        return (value.__class__.__name__, repr(vars(value)))
    if isinstance(value, Crossing):
        return (str(value), repr(shown_by(value)))
    if isinstance(value, Shell):
        return repr(value.transcript())
    if isinstance(value, (tuple, list)):
        return [shown(item) for item in value]
    return repr(value)


def result(call, *args):
    """What the call returns, or the error of this package that it raises."""
    try:
        return ("returned", shown(call(*args)))
    except PassError as error:
        return ("raised", error.__class__.__name__, [shown(value) for value in vars(error).values()])


def right_values():
    """Values that are right in some places."""
    return [None, 0, 1, 2, 3, Z, R, O, E, D, "aaap", "aapp", "apapapapap", (0, 1), (0, 0, 1), (0, 1, 0), ("before", 0, 1),
            ("rule", Z), ("ring", 0, (0, 1)), ("history", "aaaaappppp"), ("overtaken", 1), ("clash", 0, 1), ("ring", (0,)),
            ("bound", (None, 0), (1, 0, 1)), ("go",), ("come", 1), ("change", K), (("go",), ("come", 0)), [("go",), ("go",)],
            "01 10 01", "0 2 1", "none", "go", "come 1", "undo", "change 01 01 01", "possible 0 2 1 4 3"]


def objects():
    crossing = WatchedCrossing(Z, bound=3)
    crossing.come_all(*R)
    crossing.go()
    return [Rule(Z), Orders(Z, R), Learned(2, E), Bounds(Z), Crossing.of(Z, *R), crossing,
            Shell.fed(Crossing(Z), "come 0", "go")]


class TestConventions(ErrorCase):
    def test_only_errors_of_the_package_are_raised(self):
        for value in [*any_values(), *right_values(), *objects()]:
            for call in calls(value):
                self.assertIn(result(*call)[0], ("returned", "raised"))

    def test_arguments_are_not_changed(self):
        for value in [*any_values(), *right_values()]:
            before = deepcopy(value)
            for call in calls(value):
                result(*call)
            self.assert_same(value, before)

    def test_objects_are_not_changed(self):
        for value, before in zip(objects(), objects()):
            for call in calls(value):
                result(*call)
            self.assertEqual(shown(value), shown(before))

    def test_equal_calls_return_equal_results(self):
        values = zip([*any_values(), *right_values()], [*any_values(), *right_values()])
        for one, other in values:
            for call, again in zip(calls(one), calls(other)):
                self.assertEqual(result(*call), result(*again))

    def test_a_call_that_raises_an_error_changes_nothing(self):
        made = objects()
        rule, listed, learned, bounds, crossing, watched, shell = made
        wrong = [lambda value: rule(value, (0, 1)), lambda value: rule(0, (value,)), lambda value: rule[value],
                 lambda value: listed[value], lambda value: listed.place_of(value), lambda value: learned[value],
                 lambda value: learned(value, "aapp"), lambda value: learned((0, 1), value), lambda value: bounds[value]]
        for one in (crossing, watched):
            wrong += [one, one.come, one.change, lambda value, one=one: one.come_all(0, 1, value),
                      lambda value, one=one: one.attempt([("go",), value]),
                      lambda value, one=one: one.attempt([("come", 0), ("change", value)]),
                      lambda value, one=one: one.row(version=(value,))]
        before = [shown(value) for value in made]
        for value in [*any_values(), "0", (0, 7), 9]:
            for call in wrong:
                with self.assertRaises(PassError):
                    call(value)
        for call in (lambda: learned + Learned(3), lambda: bounds.at_most(Bounds(rules.turns_rule(3))), crossing.undo,
                     lambda: watched.go_until(0), lambda: watched.go_until(5)):
            with self.assertRaises(PassError):
                call()
        self.assertEqual([shown(value) for value in made], before)

    def test_later_changes_to_an_argument_have_no_effect(self):
        lanes, days = [0, 1, 2], [E, D]
        made = (rules.ranks_rule(*lanes), rules.polite_rule(*lanes))
        learned, walk = Learned(2, *days), learning.each_rule(2, *days)
        before = (repr(made), shown(learned))
        lanes.reverse()
        days[:] = [F, F]
        self.assertEqual((repr(made), shown(learned)), before)
        self.assertEqual(list(walk), [Z])

    def test_later_changes_to_lanes_and_batches_have_no_effect(self):
        lanes, batch = [0, 1, 1], [("go",), ("come", 0)]
        for kind in (Crossing, WatchedCrossing):
            crossing = kind.of(Z, *lanes)
            crossing.come_all(*lanes)
            crossing.attempt(batch)
            before = shown(crossing)
            lanes.reverse()
            batch[:] = [("go",)] * 5
            self.assertEqual(shown(crossing), before)
            lanes, batch = [0, 1, 1], [("go",), ("come", 0)]

    def test_bools_are_no_integers(self):
        self.assertFalse(rules.is_rule(((False,), (False,))))
        self.assertFalse(rules.is_row(Z, (False, True)))
        self.assert_error(rules.NoCount(True), rules.turns_rule, True)
        self.assert_error(rules.NoLane(False), rules.first_lane, Z, False, 0)
        self.assert_error(rules.NoLane(True), rules.first_lane, Z, None, True)
        self.assert_error(rules.NoPreference(), rules.ranks_rule, False, True)
        self.assertNotIn((None, False, True), Rule(Z))
        self.assertFalse(orders.is_order((0, 1), (False, True)))
        self.assert_error(orders.NoOrder(), orders.is_possible, Z, (0, 1), (0, True))
        self.assert_error(learning.NoCount(True), learning.count_rules, True)
        self.assertFalse(learning.is_day(2, ((0, True), "aapp", (0, 1))))
        self.assertFalse(histories.is_wish(R, ("before", False, True)))
        self.assert_error(rules.NoLane(True), fairness.bound_of, Z, True)
        self.assert_error(rules.NoCount(True), fairness.worst_day, K, 1, True)
        self.assertFalse(fairness.lane_verdict_holds(K, 1, ("ring", (False,))))
        self.assert_error(rules.NoLane(False), Crossing(Z).come, False)
        self.assertNotIn(False, Crossing.of(Z, 0, 1))


class TestKinds(ErrorCase):
    """What is returned is made of tuples, strings, integers, True, False and None."""

    def check(self, value):
        if isinstance(value, tuple):
            for item in value:
                self.check(item)
        else:
            self.assertIn(type(value), (int, str, bool, type(None)), value)

    def test_results_are_tuples(self):
        made = [rules.ranks_rule(1, 0), rules.polite_rule(1, 0), rules.turns_rule(2), rules.run(Z, R, "aap"),
                rules.order_of(Z, (0,), "ap"), *steps(Z, R, "aap"), rules.rule_error(0), rules.row_error(Z, 0),
                rules.word_error(R, "x")]
        made += [orders.overtaken(R, O), orders.rivals(Z, R, O), orders.clashes(Z, R, (0, 1, 3, 2, 4)),
                 orders.verdict(Z, R, O), orders.verdict(Z, R, (1, 0, 2, 3, 4)), orders.verdict(Z, R, (0, 1, 3, 2, 4)),
                 orders.bounds_of(Z, R, O), orders.possible_by(R, O, Z), orders.possible_orders(Z, R),
                 Orders(Z, R)[0], next(orders.each_possible(Z, R))]
        made += [learning.pairs_told(2, D), learning.explanation(2, D), learning.explanation(2, E, F),
                 learning.rule_at(0, 2, E), next(learning.each_rule(2, E)), learning.sure_pairs(2, E),
                 learning.open_pairs(2, E), learning.halves((0, 0, 1), 2, E), learning.needless_days(2, E, E),
                 learning.foretold((0, 1), "aapp", 2, E), Learned(2, E)[0], Learned(2, E).days]
        made += [histories.counts_of(R, "apapapapap"), histories.longest_line(Z, R, O),
                 histories.longest_in_lane(Z, R, O, 0)]
        made += [fairness.lane_bounds(K), fairness.lane_verdict(Z, 0), fairness.lane_verdict(K, 1), fairness.starving(K),
                 *rings(K, 1), fairness.favoured(Z, 1, 0), fairness.mending(K, 1), fairness.waits(Z, R, "aaap"),
                 fairness.passed_over(Z, R, "aaap"), fairness.worst_day(K, 1, 3), fairness.telling_day(Z, K),
                 fairness.telling_days(Z, Z, K), texts.parse_rule("0 0"), texts.parse_numbers("0 1", 2)]
        for crossing in objects()[4:6]:
            made += [crossing.current(), crossing.row(), crossing.waiting(), crossing.passed(), crossing.edits(), crossing(0),
                     crossing.row(version=0), Crossing.turned(Z)]
        made += [crossing.overs, objects()[6].transcript(), objects()[6].last, Shell.WORDS]
        for value in made:
            self.assertIsInstance(value, tuple)
            self.check(value)


class TestInterface(ErrorCase):
    def test_names_and_arguments(self):
        for module, names in SIGNATURES.items():
            for name, expected in names.items():
                found = getattr(module, name)
                self.assertEqual(str(signature(found)), expected, name)
                self.assertEqual(found.__module__, module.__name__)
                self.assertTrue(isclass(found) if name in CLASSES else isfunction(found))

    def test_what_the_classes_define_themselves(self):
        for kind, names in METHODS.items():
            for name, expected in names.items():
                self.assertTrue(isfunction(vars(kind)[name]), name)
                if expected is not None:
                    self.assertEqual(str(signature(vars(kind)[name])), expected)
            for name in PROPERTIES[kind]:
                self.assertIsInstance(vars(kind)[name], property)

    def test_class_methods_static_methods_and_class_values(self):
        for kind in (Crossing, WatchedCrossing):
            self.assertIsInstance(vars(kind)["of"], classmethod)
            self.assertEqual(str(signature(kind.of)), "(rule, *lanes)")
        self.assertIsInstance(vars(Crossing)["turned"], staticmethod)
        self.assertEqual(str(signature(Crossing.turned)), "(rule)")
        self.assertIsInstance(vars(Shell)["fed"], classmethod)
        self.assertEqual(str(signature(Shell.fed)), "(crossing, *commands)")
        self.assertIn("LIMIT", vars(Crossing))
        self.assertIn("WORDS", vars(Shell))
        self.assertEqual(set(METHODS), set(CLASSES.values()))

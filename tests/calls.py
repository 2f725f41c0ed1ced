"""All calls of the package that accept any value, with one value in each place that does."""

from itertools import islice

from lanerules import fairness, histories, learning, orders, rules, texts
from lanerules.crossings import Crossing, WatchedCrossing
from lanerules.fairness import Bounds
from lanerules.learning import Learned
from lanerules.orders import Orders
from lanerules.rules import Rule
from lanerules.shells import Shell
from tests.samples import K, R, Z
from tests.watched import D, E, F

O = (0, 2, 1, 4, 3)


def steps(rule, row, word):
    return list(rules.each_step(rule, row, word))


def rules_from(lanes, day, index):
    """The first ones only: of six lanes there are too many."""
    return list(islice(learning.each_rule(lanes, day, index=index), 9))


def histories_of(order):
    return list(histories.each_history(Z, R, order))


def rule_calls(value):
    return [
        (rules.is_rule, value), (rules.rule_error, value), (rules.Rule, value),
        (rules.is_row, Z, value), (rules.row_error, Z, value),
        (rules.ranks_rule, value), (rules.ranks_rule, 0, value), (rules.polite_rule, value, 0),
        (rules.turns_rule, value), (rules.first_lane, Z, value, 0), (rules.first_lane, Z, 0, value),
        (rules.word_error, R, value), (rules.is_history, R, value),
        (rules.run, Z, R, value), (rules.order_of, Z, R, value), (steps, Z, R, value),
        (Rule(Z), value, (0, 1)), (Rule(Z), None, (0, value)), (Rule(Z).__getitem__, value),
        (Rule(Z).__contains__, value), (Rule(Z).__contains__, (None, value, 1)),
        (Rule(Z).__eq__, value),
    ]


def order_calls(value):
    made = Orders(Z, R)
    found = [(call, Z, R, value) for call in (orders.is_possible, orders.rivals, orders.clashes,
                                              orders.verdict, orders.bounds_of)]
    return found + [
        (orders.is_order, R, value), (orders.is_order, (0, 0), (0, value)), (orders.overtaken, R, value),
        (orders.verdict_holds, Z, R, value, ("overtaken", 0)), (orders.verdict_holds, Z, R, O, value),
        (orders.verdict_holds, Z, R, O, ("history", value)), (orders.verdict_holds, Z, R, O, (value, 0)),
        (orders.verdict_holds, Z, R, O, ("overtaken", value)),
        (orders.verdict_holds, Z, R, O, ("clash", 0, value)), (orders.possible_by, R, value, Z),
        (made.__contains__, value), (made.__contains__, (0, 1, 2, 3, value)), (made.__getitem__, value),
        (made.place_of, value),
    ]


def learning_calls(value):
    found = [(call, value, E) for call in (
        learning.day_error, learning.is_day, learning.pairs_told, learning.explanation, learning.count_rules,
        learning.sure_pairs, learning.open_pairs, learning.first_contradicted, learning.needless_days,
        learning.Learned)]
    found += [(call, 2, value) for call, *rest in found] + [(call, 2, (value, "aapp", (0, 1))) for call, *rest in found]
    found += [(call, 2, ((0, 1), value, (0, 1))) for call, *rest in found[:10]]
    found += [(call, 2, ((0, 1), "aapp", value)) for call, *rest in found[:10]]
    for call in (learning.explanation_holds, learning.rule_at, learning.rule_index, learning.follows, learning.halves):
        found += [(call, value, 2, E), (call, value, 2, E, F), (call, 0, value), (call, 0, 2, D, value)]
    made = Learned(2, E)
    return found + [
        (learning.explains, Z, value), (learning.explanation_holds, ("rule", value), 2, E),
        (learning.explanation_holds, ("ring", value, (0, 1)), 2, E, F),
        (learning.explanation_holds, ("ring", 0, value), 2, E, F),
        (learning.explanation_holds, ("ring", 0, (0, value)), 2, E, F), (learning.follows, (0, value, 1), 2),
        (rules_from, 2, D, value), (rules_from, value, D, 0), (rules_from, 2, value, 0),
        (learning.foretold, value, "aapp", 2, E), (learning.foretold, (0, 1), value, 2, E),
        (learning.foretold, (0, 1), "aapp", value, E), (learning.foretold, (0, 1), "aapp", 2, value),
        (made, value, "aapp"), (made, (0, 1), value), (made.__getitem__, value), (made.__contains__, value),
        (made.__contains__, (0, value, 1)), (made.__eq__, value),
    ]


def history_calls(value):
    wish = ("before", 0, 1)
    found = [(call, Z, R, value) for call in (histories.earliest, histories.latest, histories.count_histories,
                                              histories.longest_line, histories.meeting, histories.count_meeting)]
    for call in (histories.waits_at_arrival, histories.waits_at_passing):
        found += [(call, Z, R, value, 0, 1), (call, Z, R, O, value, 1), (call, Z, R, O, 0, value)]
    return found + [
        (histories.counts_of, R, value), (histories.word_from, value), (histories.word_from, 0, value),
        (histories.history_at, Z, R, value, 0), (histories.history_at, Z, R, O, value),
        (histories.history_index, Z, R, value, "ap"), (histories.history_index, Z, R, O, value), (histories_of, value),
        (histories.longest_in_lane, Z, R, value, 0), (histories.longest_in_lane, Z, R, O, value),
        (histories.merged, Z, R, value), (histories.merged, Z, R, "apapapapap", value),
        (histories.is_wish, R, value), (histories.is_wish, R, (value, 0, 1)), (histories.is_wish, R, ("before", value, 1)),
        (histories.meeting, Z, R, O, value), (histories.count_meeting, Z, R, O, wish, value),
        (histories.wish_follows, Z, R, value, wish), (histories.wish_follows, Z, R, O, value),
        (histories.wish_follows, Z, R, O, wish, value),
    ]


def rings(rule, lane):
    return list(fairness.each_ring(rule, lane))


def fairness_calls(value):
    made = Bounds(Z)
    return [
        (fairness.bound_of, Z, value), (fairness.lane_verdict, Z, value), (fairness.lane_verdict_holds, Z, value, None),
        (fairness.lane_verdict_holds, Z, 1, value), (fairness.lane_verdict_holds, K, 1, ("ring", value)),
        (fairness.lane_verdict_holds, K, 1, ("ring", (0, value))), (fairness.lane_verdict_holds, Z, 1, (value, (0,))),
        (fairness.lane_verdict_holds, Z, 1, ("bound", value, (1, 0, 1))),
        (fairness.lane_verdict_holds, Z, 1, ("bound", (value, 0), (1, 0, 1))),
        (fairness.lane_verdict_holds, Z, 1, ("bound", (None, value), (1, 0, 1))),
        (fairness.lane_verdict_holds, Z, 1, ("bound", (None, 0), value)),
        (fairness.lane_verdict_holds, Z, 1, ("bound", (None, 0), (1, value, 1))), (rings, K, value),
        (fairness.favoured, Z, value, 0), (fairness.favoured, Z, 0, value), (fairness.mending, Z, value),
        (fairness.waits, Z, R, value), (fairness.passed_over, Z, R, value), (fairness.worst_day, Z, value, 1),
        (fairness.worst_day, K, 1, value), (Bounds, value), (made.__getitem__, value), (made.__contains__, value),
        (made.__eq__, value),
    ]


def on_new(kind, name, *told, **more):
    """What a method of a new crossing returns, and the crossing behind it."""
    crossing = kind.of(Z, *R)
    crossing.go()
    return (getattr(crossing, name)(*told, **more), crossing)


def asked(kind, query, version):
    return on_new(kind, query, version=version)[0]


def bounded(rule, bound):
    return WatchedCrossing(rule, bound=bound)


def crossing_calls(value):
    found = [(bounded, value, 2), (bounded, Z, value)]
    for kind in (Crossing, WatchedCrossing):
        found += [(kind, value), (kind.of, value, 0), (kind.of, Z, 0, value)]
        found += [(on_new, kind, name, value) for name in ("come", "change", "come_all", "go_until", "attempt", "__call__",
                                                           "__contains__", "__getitem__", "__eq__")]
        found += [(on_new, kind, "come_all", 0, value), (on_new, kind, "attempt", [value]),
                  (on_new, kind, "attempt", (("go",), ("come", value))), (on_new, kind, "attempt", [("change", value)]),
                  (on_new, kind, "attempt", [(value,)]), (on_new, kind, "attempt", [(value, 0)])]
        found += [(asked, kind, query, value) for query in ("current", "row", "waiting", "passed")]
    return found


def talk(*values):
    return Shell.fed(Crossing.of(Z, *R), *values).transcript()


def text_calls(value):
    return [(texts.parse_rule, value), (texts.parse_numbers, value, 1), (texts.parse_numbers, value, 40),
            (talk, value), (talk, "go", value, value), (Shell(Crossing(Z)), value), (Shell(Crossing(Z)).execute, value)]


def calls(value):
    return [*rule_calls(value), *order_calls(value), *learning_calls(value), *history_calls(value), *fairness_calls(value),
            *crossing_calls(value), *text_calls(value)]

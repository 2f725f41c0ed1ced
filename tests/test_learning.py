"""[31] to [36]: the rules that explain days are counted, numbered and asked what they have in common."""

from inspect import isgenerator
from itertools import islice, permutations
from math import factorial

from lanerules.errors import BadDay, BadRow, NoCount, NoHistory, NoIndex, NoPair, NoRule
from lanerules.learning import (count_rules, each_rule, explains, first_contradicted, follows, foretold, halves,
                                needless_days, open_pairs, rule_at, rule_index, sure_pairs)
from lanerules.rules import Rule, order_of, ranks_rule, row_error, turns_rule
from tests.listing import Draws, all_histories, passing_order, rows
from tests.samples import ONE, Z, ErrorCase, any_values
from tests.test_watched_days import NO_LANES, plain_pairs
from tests.watched import D, E, F, all_days, cases, every_pair, explaining, has, listed_rules, rules_for

WRONG_PAIRS = [
    (0, 0, 0), (0, 1, 1), (3, 0, 1), (-1, 0, 1), (0, 0, 2), (0, 2, 0), (0, -1, 1), (0, 1, -1), (0, 1), (0, 0, 1, 1),
    [0, 0, 1], (False, 0, 1), (True, 0, 1), (0, False, 1), (0, 0, True), (None, 0, 1), (0, None, 1), (0, 0, None),
    ("0", 0, 1), (0, "0", 1), "001", None, 0, (), ([0], 0, 1), (0, (0,), 1), (0, [0], [1]), Rule(Z), (0, Rule(Z), 1),
]


def listed_preferences(index, pairs):
    """All preferences of six lanes that have the pairs with this index."""
    kept = [(one, other) for at, one, other in pairs if at == index]
    return [preference for preference in permutations(range(6))
            if all(preference.index(one) < preference.index(other) for one, other in kept)]


def six_lanes(seed, many, cars):
    draws = Draws(seed)
    rule = draws.rule(6)
    return rule, [draws.day(rule, cars) for _ in range(many)]


class TestErrors(ErrorCase):
    def calls(self):
        """Every function of these points, with its arguments behind those of its own."""
        return [count_rules, lambda *args: rule_at(None, *args), lambda *args: rule_index(None, *args),
                lambda *args: next(each_rule(*args)), lambda *args: list(each_rule(*args, index=None)),
                lambda *args: follows(None, *args), sure_pairs, open_pairs,
                lambda *args: halves(None, *args), first_contradicted, needless_days,
                lambda *args: foretold(None, None, *args)]

    def test_no_count_first(self):
        for call in self.calls():
            for lanes in NO_LANES:
                self.assert_error(NoCount(lanes), call, lanes)
                error = self.assert_error(NoCount(lanes), call, lanes, None, E)
                self.assertIs(error.value, lanes)

    def test_bad_day_next(self):
        for call in self.calls():
            self.assert_error(BadDay(0), call, 1, E)
            self.assert_error(BadDay(0), call, 2, None)
            self.assert_error(BadDay(2), call, 2, E, F, ((0, 1), "aapp", (0, 0)), None)
            self.assert_error(BadDay(1), call, 2, E, list(E), E)
            for value in any_values():
                self.assert_error(BadDay(1), call, 2, F, value)

    def test_then_their_own_errors(self):
        for call, error in zip(self.calls(), [None, NoIndex(None), NoRule(), None, NoIndex(None), NoPair(None), None,
                                              None, NoPair(None), None, None, BadRow((None, "row"))]):
            if error is not None:
                self.assert_error(error, call, 2, E)
                self.assert_error(error, call, 2)


class TestNumbering(ErrorCase):
    def test_against_the_listing(self):
        for lanes, days in cases():
            kept = rules_for(lanes, days)
            self.assert_same(count_rules(lanes, *days), len(kept))
            self.assert_same(list(each_rule(lanes, *days)), kept)
            for number in range(0, len(kept), 1 + len(kept) // 40):
                self.assert_same(rule_at(number, lanes, *days), kept[number])
                self.assert_same(rule_index(kept[number], lanes, *days), number)
            for number in (-1, len(kept), len(kept) + 1, 10 ** 39, -(10 ** 39)):
                self.assert_error(NoIndex(number), rule_at, number, lanes, *days)
            for rule in listed_rules(lanes)[::1 + len(listed_rules(lanes)) // 40]:
                if rule not in kept:
                    self.assert_error(NoRule(), rule_index, rule, lanes, *days)

    def test_each_rule_from_a_number_on(self):
        for lanes, days in cases()[::3]:
            kept = rules_for(lanes, days)
            for number in {0, 1, len(kept) // 2, len(kept) - 1, len(kept)} & set(range(len(kept) + 1)):
                self.assert_same(list(each_rule(lanes, *days, index=number)), kept[number:])
            for number in (-1, len(kept) + 1, True, False, None, "0", (0,), 10 ** 39):
                self.assert_error(NoIndex(number), lambda: next(each_rule(lanes, *days, index=number)))
        for value in any_values():
            if isinstance(value, bool) or value not in (6, 7):
                error = self.assert_error(NoIndex(value), lambda: list(each_rule(2, index=value)))
                self.assertIs(error.index, value)

    def test_no_days(self):
        for lanes in range(1, 7):
            self.assert_same(count_rules(lanes), factorial(lanes) ** (lanes + 1))
            first = ranks_rule(*range(lanes))
            last = ranks_rule(*reversed(range(lanes)))
            total = count_rules(lanes)
            self.assert_same([rule_at(0, lanes), rule_at(total - 1, lanes)], [first, last])
            self.assert_same([rule_index(first, lanes), rule_index(last, lanes)], [0, total - 1])
            self.assert_error(NoIndex(total), rule_at, total, lanes)
            self.assert_same(list(each_rule(lanes, index=total)), [])
            self.assert_same(list(each_rule(lanes, index=total - 1)), [last])

    def test_six_lanes(self):
        draws = Draws(31)
        for seed, many, cars in ((1, 1, 40), (2, 3, 40), (3, 1, 8), (4, 6, 12)):
            rule, days = six_lanes(seed, many, cars)
            lists = [listed_preferences(index, plain_pairs(days)) for index in range(7)]
            total = 1
            for preferences in lists:
                total *= len(preferences)
            self.assert_same(count_rules(6, *days), total)
            for number in [0, total - 1, total // 2, *[draws.below(2 ** 30) ** 3 % total for _ in range(6)]]:
                rest, expected = number, []
                for preferences in reversed(lists):
                    rest, digit = divmod(rest, len(preferences))
                    expected.append(preferences[digit])
                self.assert_same(rule_at(number, 6, *days), tuple(reversed(expected)))
                self.assert_same(rule_index(tuple(reversed(expected)), 6, *days), number)
            self.assertEqual(rule_at(rule_index(rule, 6, *days), 6, *days), rule)
            self.assert_error(NoIndex(total), rule_at, total, 6, *days)

    def test_walks_over_many_rules(self):
        rule, days = six_lanes(5, 1, 20)
        total = count_rules(6, *days)
        for start in (0, total // 3, total - 4):
            found = list(islice(each_rule(6, *days, index=start), 6))
            self.assert_same(found, [rule_at(number, 6, *days) for number in range(start, min(start + 6, total))])
            for one, other in zip(found, found[1:]):
                self.assertLess(one, other)
        self.assertTrue(isgenerator(each_rule(6)))
        walk, other = each_rule(2, E), each_rule(2, E, index=1)
        self.assertEqual([next(walk), next(walk)], [rule_at(0, 2, E), next(other)])
        self.assertEqual([next(other), *other], rules_for(2, [E])[2:])
        self.assertEqual(list(walk), rules_for(2, [E])[2:])

    def test_values_that_are_no_rules(self):
        for value in [None, 0, True, "01 10 01", [(0, 1)] * 3, ((0, 1), (1, 0)), ((0, 1), (1, 0), (0, True)), ONE,
                      turns_rule(3), Rule(Z), (), ((0, 1), (1, 0), [0, 1]), ((1, 0), (1, 0), (0, 1)), *any_values()]:
            self.assert_error(NoRule(), rule_index, value, 2, E)
        for value in any_values():
            if isinstance(value, bool) or value not in (6, 7):
                error = self.assert_error(NoIndex(value), rule_at, value, 2)
                self.assertIs(error.index, value)


class TestPairs(ErrorCase):
    def test_against_the_listing(self):
        for lanes, days in cases():
            kept = rules_for(lanes, days)
            sure = [pair for pair in every_pair(lanes) if all(has(rule, pair) for rule in kept)]
            self.assert_same(sure_pairs(lanes, *days), tuple(sure))
            still = [(index, one, other) for index, one, other in every_pair(lanes) if one < other
                     and (index, one, other) not in sure and (index, other, one) not in sure]
            self.assert_same(open_pairs(lanes, *days), tuple(still))
            for pair in every_pair(lanes):
                having = len([rule for rule in kept if has(rule, pair)])
                self.assertIs(follows(pair, lanes, *days), pair in sure)
                self.assert_same(halves(pair, lanes, *days), (having, len(kept) - having))

    def test_six_lanes(self):
        for seed, many, cars in ((6, 1, 40), (7, 2, 9)):
            rule, days = six_lanes(seed, many, cars)
            lists = [listed_preferences(index, plain_pairs(days)) for index in range(7)]
            total = count_rules(6, *days)
            sure, still = sure_pairs(6, *days), open_pairs(6, *days)
            for pair in every_pair(6):
                index, one, other = pair
                having = len([True for preference in lists[index] if preference.index(one) < preference.index(other)])
                self.assertEqual(pair in sure, having == len(lists[index]))
                self.assertEqual(pair in still, one < other and 0 < having < len(lists[index]))
                if one == 2 or other == 5:
                    self.assertIs(follows(pair, 6, *days), pair in sure)
                    self.assert_same(halves(pair, 6, *days),
                                     (total // len(lists[index]) * having,
                                      total // len(lists[index]) * (len(lists[index]) - having)))
            self.assertEqual((list(sure), list(still)), (sorted(sure), sorted(still)))

    def test_no_days_and_no_rules(self):
        for lanes in range(1, 7):
            self.assert_same(sure_pairs(lanes), ())
            self.assert_same(open_pairs(lanes), tuple(pair for pair in every_pair(lanes) if pair[1] < pair[2]))
            for pair in every_pair(lanes)[::11]:
                self.assertIs(follows(pair, lanes), False)
                self.assertEqual(halves(pair, lanes)[0], halves(pair, lanes)[1])
            if lanes > 1:
                self.assert_same(sure_pairs(lanes, E, F), tuple(every_pair(lanes)))
                self.assert_same(open_pairs(lanes, E, F), ())
                for pair in every_pair(lanes)[::11]:
                    self.assertIs(follows(pair, lanes, E, F), True)
                    self.assert_same(halves(pair, lanes, E, F), (0, 0))

    def test_a_pair_that_follows_through_others(self):
        days = [((0, 1), "aapp", (0, 1)), ((1, 2), "aapp", (0, 1)), ((2, 3), "aapp", (0, 1))]
        self.assertIs(follows((0, 0, 3), 4, *days), True)
        self.assertIs(follows((0, 3, 0), 4, *days), False)
        self.assertIs(follows((1, 0, 3), 4, *days), False)
        self.assert_same(sure_pairs(4, *days), tuple((0, one, other) for one in range(4) for other in range(one + 1, 4)))
        backward = [((5, 4), "aapp", (0, 1)), ((4, 2), "aapp", (0, 1)), ((2, 1), "aapp", (0, 1)), ((1, 0), "aapp", (0, 1))]
        for turned in permutations(backward):
            self.assertIs(follows((0, 5, 0), 6, *turned), True)
            self.assertIs(follows((0, 5, 3), 6, *turned), False)

    def test_wrong_pairs(self):
        for value in WRONG_PAIRS + any_values():
            for days in ((), (E,), (E, F)):
                error = self.assert_error(NoPair(value), follows, value, 2, *days)
                self.assertIs(error.value, value)
                error = self.assert_error(NoPair(value), halves, value, 2, *days)
                self.assertIs(error.value, value)
        self.assert_error(NoPair((0, 0, 1)), follows, (0, 0, 1), 1)
        self.assert_same(halves((6, 5, 0), 6)[0] * 2, count_rules(6))
        self.assert_error(NoPair((7, 5, 0)), halves, (7, 5, 0), 6)
        self.assert_error(NoPair((6, 6, 0)), halves, (6, 6, 0), 6)


class TestContradicted(ErrorCase):
    def test_against_the_listing(self):
        seen = set()
        for lanes, days in cases():
            wrong = [index for index in range(len(days)) if not rules_for(lanes, days[:index + 1])]
            expected = wrong[0] if wrong else None
            seen.add(expected)
            self.assert_same(first_contradicted(lanes, *days), expected)
        self.assertTrue({None, 0, 1, 2} <= seen)

    def test_edges(self):
        for lanes in range(1, 7):
            self.assert_same(first_contradicted(lanes), None)
            self.assert_same(first_contradicted(lanes, ((0,), "ap", (0,))), None)
        rule, days = six_lanes(8, 6, 40)
        self.assert_same(first_contradicted(6, *days), None)
        self.assert_same(first_contradicted(6, *days, ((0, 1), "aapp", (0, 1)), ((0, 1), "aapp", (1, 0)), *days) in (6, 7), True)
        # A day that contradicts itself.
        self.assert_same(first_contradicted(2, E, ((0, 0, 0, 1, 1), "aaaaappppp", (0, 3, 1, 2, 4)), F), 1)


class TestNeedless(ErrorCase):
    def test_against_the_listing(self):
        seen = 0
        for lanes, days in cases():
            expected = []
            for index in range(len(days)):
                kept = rules_for(lanes, days[:index] + days[index + 1:])
                numbers = explaining(lanes, days[index])
                if all(rule in [listed_rules(lanes)[number] for number in numbers] for rule in kept):
                    expected.append(index)
            seen += 0 < len(expected) < len(days)
            self.assert_same(needless_days(lanes, *days), tuple(expected))
        self.assertGreater(seen, 5)

    def test_edges(self):
        for lanes in range(1, 7):
            self.assert_same(needless_days(lanes), ())
            self.assert_same(needless_days(lanes, ((0,), "ap", (0,))), (0,))
        self.assert_same(needless_days(2, E), ())
        self.assert_same(needless_days(2, E, F), ())
        self.assert_same(needless_days(2, E, F, D), (0, 2))
        self.assert_same(needless_days(2, E, F, E), (0, 2))
        self.assert_same(needless_days(2, E, F, E, F), (0, 1, 2, 3))
        rule, days = six_lanes(9, 3, 40)
        self.assert_same(needless_days(6, *days, *days), (0, 1, 2, 3, 4, 5))


class TestForetold(ErrorCase):
    def test_against_the_listing(self):
        for lanes, days in cases()[::2]:
            kept = rules_for(lanes, days)
            for cars in (1, 2, 3):
                for row in rows(lanes, cars):
                    for word in all_histories(cars):
                        orders = {passing_order(rule, row, word) for rule in kept[:1] + kept[-1:] + kept[::7]}
                        orders |= {passing_order(rule, row, word) for rule in kept} if len(orders) == 1 else set()
                        expected = orders.pop() if len(orders) == 1 else None
                        self.assert_same(foretold(row, word, lanes, *days), expected)

    def test_no_rule_foretells_nothing(self):
        self.assert_same(foretold((0,), "ap", 2, E, F), None)
        self.assert_same(foretold((0, 1), "apap", 2, E, F), None)
        self.assert_same(foretold((0,), "ap", 2, E), (0,))

    def test_one_lane(self):
        self.assert_same(foretold((0,) * 40, "a" * 40 + "p" * 40, 1), tuple(range(40)))
        self.assert_same(foretold((0,), "ap", 1), (0,))

    def test_forty_cars_of_six_lanes(self):
        rule = turns_rule(6)
        days = []
        for last, (one, other) in ((last, pair) for last in range(6) for pair in permutations(range(6), 2)):
            row, word = (last, one, other), "apaapp"
            days.append((row, word, passing_order(rule, row, word)))
            row = (one, other)
            days.append((row, "aapp", passing_order(rule, row, "aapp")))
        draws = Draws(32)
        for _ in range(3):
            row, word = draws.row(6, 40), draws.word(40)
            self.assert_same(foretold(row, word, 6, *days), order_of(rule, row, word))
            self.assert_same(foretold(row, "a" * 40 + "p" * 40, 6), None)
            self.assert_same(foretold(row, "ap" * 40, 6), tuple(range(40)))
        self.assert_same(count_rules(6, *days), 1)

    def test_a_lane_that_is_sure_only_through_others(self):
        days = [((0, 1), "aapp", (0, 1)), ((1, 2), "aapp", (0, 1))]
        self.assert_same(foretold((2, 0), "aapp", 3, *days), (1, 0))
        self.assert_same(foretold((2, 0, 1), "aaappp", 3, *days), None)

    def test_errors(self):
        rule = turns_rule(2)
        for row in [(), [0, 1], (0, 2), (0, True), None, "01", (0,) * 41, 0, (0, 1, -1), *any_values()]:
            error = row_error(rule, row)
            for days in ((), (E,), (E, F)):
                self.assert_error(BadRow(error), foretold, row, "aapp", 2, *days)
                self.assert_error(BadRow(error), foretold, row, None, 2, *days)
        for word in ["", "aap", "aappa", "appa", "axpp", None, 0, ("a",), ["aapp"], *any_values()]:
            for days in ((), (E,), (E, F)):
                self.assert_error(NoHistory(), foretold, (0, 1), word, 2, *days)
        self.assert_error(BadRow((1, "lane")), foretold, (0, 1), "aapp", 1)


class TestAllDays(ErrorCase):
    def test_each_day_alone(self):
        for lanes, cars in ((1, 3), (2, 3)):
            for day in all_days(lanes, cars)[::3]:
                kept = rules_for(lanes, [day])
                self.assert_same(count_rules(lanes, day), len(kept))
                self.assert_same(list(each_rule(lanes, day)), kept)
                self.assert_same(first_contradicted(lanes, day), None if kept else 0)
                self.assertTrue(all(explains(rule, day) for rule in kept))

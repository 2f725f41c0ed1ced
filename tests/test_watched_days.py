"""[24] to [30]: days, the pairs that they tell, and the rules or rings that they lead to."""

from itertools import permutations, product

from lanerules.errors import BadDay, NoCount
from lanerules.learning import (day_error, explains, explanation, explanation_holds, is_day, pairs_told)
from lanerules.rules import Rule, polite_rule, ranks_rule, turns_rule
from tests.listing import Draws, all_histories, all_orders, counts_by_letters
from tests.samples import ONE, Z, ErrorCase, all_rules, any_values
from tests.watched import D, E, F, all_days, cases, every_pair, has, is_plain_day, listed_rules, rules_for

NO_LANES = [0, -1, 7, 8, 10 ** 39, True, False, None, "2", (2,), [2], {}, Rule(Z)]


def plain_pairs(days):
    """Word for word: at each passing, the lanes in which somebody else waits."""
    found = set()
    for row, word, order in days:
        counts = counts_by_letters(word)
        for place, car in enumerate(order):
            index = 0 if place == 0 else 1 + row[order[place - 1]]
            for other in range(len(row)):
                waits = counts[other] <= place and order.index(other) > place
                if waits and row[other] != row[car]:
                    found.add((index, row[car], row[other]))
    return tuple(sorted(found))


def is_plain_ring(days, index, lanes):
    told = plain_pairs(days)
    return len(set(lanes)) == len(lanes) >= 2 and all(
        (index, lanes[at - 1], lanes[at]) in told for at in range(len(lanes)))


def all_rings(lanes, days):
    """All rings, in any turn."""
    return [(index, ring) for index in range(lanes + 1) for size in range(2, lanes + 1)
            for ring in permutations(range(lanes), size) if is_plain_ring(days, index, ring)]


class TestDays(ErrorCase):
    def check(self, lanes, value, error):
        self.assert_same(day_error(lanes, value), error)
        self.assert_same(is_day(lanes, value), error is None)

    def test_all_small_days(self):
        for lanes, cars in ((1, 1), (1, 3), (2, 1), (2, 2), (2, 3), (3, 2)):
            for row in product(range(lanes), repeat=cars):
                for word, order in product(all_histories(cars), all_orders(cars)):
                    day = is_plain_day(row, word, order)
                    self.check(lanes, (row, word, order), None if day else "order")

    def test_more_lanes_than_the_day_has(self):
        for lanes in range(1, 7):
            self.check(lanes, ((0,), "ap", (0,)), None)
            self.check(lanes, ((lanes - 1, 0), "apap", (0, 1)), None)
            self.check(lanes, ((0, lanes), "apap", (0, 1)), "row")

    def test_no_days(self):
        for value in [(), (E,), E + (0,), list(E), E[:2], "aapp", None, 0, True, {"row": 1}, Rule(Z),
                      ((0, 1), "aapp"), *any_values()]:
            if not (isinstance(value, tuple) and len(value) == 3):
                self.check(2, value, "day")

    def test_wrong_rows(self):
        for row in [(), [0, 1], (0, 2), (0, -1), (0, True), (False, 1), (0, None), "01", None, (0,) * 41, 0,
                    (0, "1"), (0, [1]), *any_values()]:
            self.check(2, (row, "aapp", (0, 1)), "row")
            self.check(2, (row, None, None), "row")

    def test_wrong_words(self):
        for word in ["", "aap", "aappp", "paap", "aaapp", "appa", "axpp", None, ("a", "p"), b"aapp", 0,
                     ["aapp"], "AAPP", *any_values()]:
            self.check(2, ((0, 1), word, (0, 1)), "word")
            self.check(2, ((0, 1), word, None), "word")

    def test_wrong_orders(self):
        for order in [(), (0,), (0, 1, 2), (0, 0), (1, 2), (0, -1), [0, 1], (0, True), (False, 1), "01", None,
                      (0, "1"), (0, [1]), *any_values()]:
            self.check(2, ((0, 1), "aapp", order), "order")
        self.check(2, ((0, 1), "apap", (1, 0)), "order")
        self.check(2, ((0, 1), "aapp", (1, 0)), None)
        self.check(2, ((0, 0), "aapp", (1, 0)), "order")

    def test_forty_cars(self):
        row = tuple(k % 6 for k in range(40))
        self.check(6, (row, "a" * 40 + "p" * 40, tuple(range(40))), None)
        self.check(6, (row, "ap" * 40, tuple(range(40))), None)
        self.check(6, (row, "ap" * 40, (1, 0, *range(2, 40))), "order")
        self.check(6, (row + (0,), "ap" * 41, tuple(range(41))), "row")
        self.check(5, (row, "ap" * 40, tuple(range(40))), "row")

    def test_no_numbers_of_lanes(self):
        for lanes in NO_LANES + any_values():
            if isinstance(lanes, bool) or lanes != 6:
                for call in (day_error, is_day):
                    error = self.assert_error(NoCount(lanes), call, lanes, E)
                    self.assertIs(error.value, lanes)
                    self.assert_error(NoCount(lanes), call, lanes, None)


class TestErrors(ErrorCase):
    """NoCount(lanes) first, then BadDay(index)."""

    def test_pairs_told_and_explanation(self):
        calls = [pairs_told, explanation, lambda *args: explanation_holds(None, *args)]
        for call in calls:
            for lanes in NO_LANES:
                error = self.assert_error(NoCount(lanes), call, lanes, None, E)
                self.assertIs(error.value, lanes)
                self.assert_error(NoCount(lanes), call, lanes)
            self.assert_error(BadDay(0), call, 2, None)
            self.assert_error(BadDay(1), call, 2, E, ((0, 2), "aapp", (0, 1)), None)
            self.assert_error(BadDay(2), call, 2, E, F, E + E)
            self.assert_error(BadDay(0), call, 1, E)
            self.assert_error(BadDay(3), call, 2, E, E, E, ((0, 0), "aapp", (1, 0)), E)
            for value in any_values():
                self.assert_error(BadDay(1), call, 2, E, value)

    def test_explains(self):
        self.assert_error(BadDay(0), explains, ONE, E)
        self.assert_error(BadDay(1), explains, Z, F, None)
        self.assert_error(BadDay(0), explains, Z, ((0, 1, 2), "aaappp", (0, 1, 2)))
        self.assertIs(explains(turns_rule(3), ((0, 1, 2), "aaappp", (0, 1, 2))), True)
        for value in any_values():
            self.assert_error(BadDay(2), explains, Z, E, D, value)


class TestPairs(ErrorCase):
    def test_against_the_words_of_the_document(self):
        for lanes, days in cases():
            self.assert_same(pairs_told(lanes, *days), plain_pairs(days))
        for lanes, cars in ((2, 3), (3, 2)):
            for day in all_days(lanes, cars):
                self.assert_same(pairs_told(lanes, day), plain_pairs([day]))

    def test_forty_cars_of_six_lanes(self):
        draws = Draws(22)
        for rule in (turns_rule(6), polite_rule(0, 2, 4, 1, 3, 5), draws.rule(6)):
            days = [draws.day(rule, 40) for _ in range(3)]
            self.assert_same(pairs_told(6, *days), plain_pairs(days))

    def test_nothing_is_told(self):
        for lanes in range(1, 7):
            self.assert_same(pairs_told(lanes), ())
            self.assert_same(pairs_told(lanes, ((0,), "ap", (0,))), ())
            self.assert_same(pairs_told(lanes, ((lanes - 1, 0), "apap", (0, 1))), ())
        self.assert_same(pairs_told(1, ((0,) * 40, "a" * 40 + "p" * 40, tuple(range(40)))), ())

    def test_a_rule_explains_a_day_if_it_has_all_pairs(self):
        for lanes, cars in ((1, 2), (2, 2), (2, 3)):
            for rule, day in product(all_rules(lanes), all_days(lanes, cars)):
                told = all(has(rule, pair) for pair in plain_pairs([day]))
                self.assertIs(explains(rule, day), told)
                self.assertEqual(told, rule in rules_for(lanes, [day]))


class TestExplains(ErrorCase):
    def test_against_the_listing(self):
        for lanes, days in cases():
            kept = rules_for(lanes, days)
            for rule in listed_rules(lanes)[::1 + lanes * lanes // 4]:
                self.assertIs(explains(rule, *days), rule in kept)

    def test_six_lanes_and_forty_cars(self):
        draws = Draws(23)
        rule = draws.rule(6)
        days = [draws.day(rule, 40) for _ in range(4)]
        self.assertIs(explains(rule, *days), True)
        self.assertIs(explains(rule), True)
        for index, one, other in plain_pairs(days)[::9]:
            swapped = [list(preference) for preference in rule]
            at, to = swapped[index].index(one), swapped[index].index(other)
            swapped[index][at], swapped[index][to] = other, one
            self.assertIs(explains(tuple(map(tuple, swapped)), *days), False)


class TestExplanation(ErrorCase):
    def test_against_the_listing(self):
        rings_seen = 0
        for lanes, days in cases():
            kept = rules_for(lanes, days)
            found = explanation(lanes, *days)
            self.assertIs(explanation_holds(found, lanes, *days), True)
            if kept:
                self.assertEqual((found[0], len(found)), ("rule", 2))
                self.assertIn(found[1], kept)
                self.assertEqual(all_rings(lanes, days), [])
            else:
                rings_seen += 1
                self.assertEqual((found[0], len(found)), ("ring", 3))
                self.assertIn((found[1], found[2]), all_rings(lanes, days))
        self.assertGreater(rings_seen, 10)

    def test_a_ring_of_each_size(self):
        for size in range(2, 7):
            days = []
            for lane in range(size):
                row = (lane, (lane + 1) % size)
                days.append((row, "aapp", (0, 1)))
            found = explanation(6, *days)
            self.assertEqual(found[:2], ("ring", 0))
            self.assertEqual(sorted(found[2]), list(range(size)))
            self.assertIs(explanation_holds(found, 6, *days), True)
            self.assertEqual(explanation(6, *days[1:])[0], "rule")
            for turn in range(size):
                ring = tuple(range(turn, size)) + tuple(range(turn))
                self.assertIs(explanation_holds(("ring", 0, ring), 6, *days), True)
                self.assertIs(explanation_holds(("ring", 0, ring), 6, *days[1:]), False)
                self.assertIs(explanation_holds(("ring", 1, ring), 6, *days), False)
                self.assertIs(explanation_holds(("ring", 0, ring[::-1]), 6, *days), size == 2)
                self.assertIs(explanation_holds(("ring", 0, ring[1:]), 6, *days), False)

    def test_a_ring_behind_a_lane_that_is_in_none(self):
        # Lane 0 goes behind lane 1, which is in a ring with lane 2.
        days = [((1, 0), "aapp", (0, 1)), ((1, 2), "aapp", (0, 1)), ((2, 1), "aapp", (0, 1)),
                ((0, 3), "aapp", (0, 1))]
        found = explanation(4, *days)
        self.assertEqual((found[0], found[1], sorted(found[2])), ("ring", 0, [1, 2]))

    def test_two_rings_one_behind_the_other(self):
        # Lane 0 goes behind lanes of its own ring and of another one.
        for lanes in permutations(range(4)):
            told = ((0, 3), (3, 0), (1, 2), (2, 1), (1, 0))
            days = [((lanes[one], lanes[other]), "aapp", (0, 1)) for one, other in told]
            self.assertIs(explanation_holds(explanation(4, *days), 4, *days), True)
            self.assertIn(explanation(4, *days)[1:], all_rings(4, days))

    def test_a_ring_after_the_last_lane(self):
        one = ((5, 5, 4), "aaappp", (0, 1, 2))
        other = ((5, 5, 4), "aaappp", (0, 2, 1))
        found = explanation(6, one, other)
        self.assertEqual((found[0], found[1], sorted(found[2])), ("ring", 6, [4, 5]))
        self.assertIs(explanation_holds(found, 6, one, other), True)
        self.assertIs(explanation_holds(found, 6, one), False)

    def test_six_lanes_and_forty_cars(self):
        draws = Draws(24)
        for _ in range(3):
            rule = draws.rule(6)
            days = [draws.day(rule, 40) for _ in range(5)]
            kind, found = explanation(6, *days)
            self.assertEqual(kind, "rule")
            self.assertTrue(all(has(found, pair) for pair in plain_pairs(days)))
            self.assertIs(explanation_holds(("rule", rule), 6, *days), True)


class TestExplanationHolds(ErrorCase):
    def test_all_rules_and_rings(self):
        for lanes, days in cases()[::2]:
            kept, rings = rules_for(lanes, days), all_rings(lanes, days)
            for rule in listed_rules(lanes)[::1 + lanes * lanes // 2]:
                self.assertIs(explanation_holds(("rule", rule), lanes, *days), rule in kept)
            for index in range(-1, lanes + 2):
                for size in range(0, lanes + 2):
                    for ring in product(range(lanes), repeat=size):
                        self.assertIs(explanation_holds(("ring", index, ring), lanes, *days),
                                      (index, ring) in rings)

    def test_rules_of_other_numbers_of_lanes(self):
        for lanes, other in product(range(1, 7), range(1, 7)):
            value = ("rule", ranks_rule(*range(other)))
            self.assertIs(explanation_holds(value, lanes), lanes == other)

    def test_wrong_values(self):
        wrong = [("rule", [(0, 1), (1, 0), (0, 1)]), ["rule", Z], ("rule",), ("rule", Z, Z), ("Rule", Z), Z, None,
                 ("rule", ((0, 1), (1, 0), (0, True))), ("rule", ((False, 1), (1, 0), (0, 1))), ("rule", Rule(Z)),
                 ("rule", None), ("ring", 0), ("ring", (0, 1)), ("ring", 0, (1, 0), 0), ["ring", 0, (1, 0)],
                 ("ring", 0, [1, 0]), ("ring", False, (0, 1)), ("ring", "0", (0, 1)), ("ring", None, (0, 1)),
                 ("ring", 0, (0, True)), ("ring", 0, (False, 1)), ("ring", 0, "01"), ("ring", 0, (0, 1, 0)),
                 ("ring", 0, (0, 1, 0, 1)), ("ring", 0, (0,)), ("ring", 0, ()), ("ring", 0, ((0,), 1)),
                 ("ring", 0, (0, [1])), ("ring", 1, (0, 1)), ("ring", -1, (0, 1)), ("ring", 3, (0, 1)),
                 (None, Z), (None, 0, (0, 1)), ("rule", 0, (0, 1)), ("ring", Z), (Rule(Z), Z), 0, "rule"]
        self.assertIs(explanation_holds(("rule", Z), 2, D, E), True)
        self.assertIs(explanation_holds(("ring", 0, (0, 1)), 2, E, F), True)
        for value in wrong + any_values():
            self.assertIs(explanation_holds(value, 2, D, E), False, value)
            self.assertIs(explanation_holds(value, 2, E, F), False, value)

    def test_a_ring_needs_pairs_that_are_told_and_not_only_follow(self):
        # 0 before 1, 1 before 2, 2 before 1: told are no ring of 0, and (0, 2) follows but is not told.
        days = [((0, 1), "aapp", (0, 1)), ((1, 2), "aapp", (0, 1)), ((2, 0), "aapp", (0, 1))]
        self.assertIs(explanation_holds(("ring", 0, (0, 1, 2)), 3, *days), True)
        self.assertIs(explanation_holds(("ring", 0, (0, 2)), 3, *days), False)
        self.assertIs(explanation_holds(("ring", 0, (0, 1)), 3, *days), False)

    def test_pairs_of_one_lane(self):
        self.assertEqual(every_pair(1), [])
        self.assertEqual(explanation(1), ("rule", ONE))

"""[14] to [21]: orders, whether they are possible, and the reasons why they are not."""

from itertools import product

from lanerules.errors import Impossible, NoOrder
from lanerules.orders import (bounds_of, clashes, is_order, is_possible, overtaken, possible_by, rivals,
                              verdict, verdict_holds)
from lanerules.rules import Rule, polite_rule, ranks_rule, turns_rule
from tests.listing import (Draws, all_histories, all_orders, by_order, counts_by_letters, passing_order,
                           small_cases)
from tests.samples import K, ONE, R, Z, ErrorCase, all_rules, any_values

WRONG_ORDERS = [
    (), (0,), (0, 1, 2, 3), (0, 1, 2, 3, 4, 5), (0, 1, 2, 3, 3), (0, 1, 2, 3, 5), (-1, 0, 1, 2, 3),
    (1, 2, 3, 4, 5), (0, True, 2, 3, 4), (False, 1, 2, 3, 4), [0, 1, 2, 3, 4], (0, 1, 2, 3, "4"),
    (0, 1, 2, 3, None), (0, 1, 2, 3, (4,)), (0, 1, 2, 3, [4]), "01234", None, 0, {"0": 1},
    (0, 1, 2, 3, {}), (0, 0, 0, 0, 0), ((0, 1, 2, 3, 4),), Rule(Z), (0, 1, 2, 3, Rule(Z)),
]


def plain_rivals(rule, row, order, place):
    """Word for word: the first cars of all lanes that go before, among those not before the place."""
    left = [car for car in range(len(row)) if car in order[place:]]
    preference = rule[0] if place == 0 else rule[1 + row[order[place - 1]]]
    ahead = preference[:preference.index(row[order[place]])]
    return tuple(sorted(min(car for car in left if row[car] == lane)
                        for lane in ahead if any(row[car] == lane for car in left)))


def plain_clashes(rule, row, order):
    found = set()
    for place, one, other in product(range(len(row)), range(len(row)), range(len(row))):
        if one < other and one in plain_rivals(rule, row, order, place) and order.index(other) <= place:
            found.add((one, other))
    return tuple(sorted(found))


def plain_overtaken(row, order):
    return tuple(one for one in range(len(row))
                 if any(row[other] == row[one] and order.index(other) < order.index(one)
                        for other in range(one + 1, len(row))))


def large_days(seed):
    """Rules and rows of six lanes and forty cars, each with a history and its order."""
    draws = Draws(seed)
    found = []
    for rule in (turns_rule(6), polite_rule(2, 5, 0, 1, 4, 3), ranks_rule(5, 4, 3, 2, 1, 0),
                 draws.rule(6), draws.rule(6)):
        row, word = draws.row(6, 40), draws.word(40)
        found.append((rule, row, word, passing_order(rule, row, word)))
    return found


class TestIsOrder(ErrorCase):
    def test_all_orders_and_nothing_else(self):
        for cars in (1, 2, 3):
            for value in product(range(-1, cars + 1), repeat=cars):
                self.assertIs(is_order((0,) * cars, value), sorted(value) == list(range(cars)))

    def test_sizes(self):
        self.assertIs(is_order((0,), (0,)), True)
        self.assertIs(is_order((0,) * 40, tuple(range(40))), True)
        self.assertIs(is_order((0,) * 40, tuple(range(40))[::-1]), True)
        self.assertIs(is_order((0,) * 40, tuple(range(39))), False)
        self.assertIs(is_order((0,) * 40, tuple(range(41))), False)

    def test_an_overtaking_order_is_an_order(self):
        self.assertIs(is_order((0, 0), (1, 0)), True)

    def test_wrong_values(self):
        for value in WRONG_ORDERS + any_values():
            self.assertIs(is_order(R, value), False)


class TestPossible(ErrorCase):
    def test_against_the_listing(self):
        for rule, row in small_cases():
            found = by_order(rule, row)
            for order in all_orders(len(row)):
                self.assertIs(is_possible(rule, row, order), order in found)

    def test_forty_cars(self):
        for rule, row, word, order in large_days(1):
            self.assertIs(is_possible(rule, row, order), True)
            self.assertIs(is_possible(rule, row, order[::-1]), False)
        for lanes in range(1, 7):
            self.assertIs(is_possible(turns_rule(lanes), (lanes - 1,) * 40, tuple(range(40))), True)
        swapped = (*range(38), 39, 38)
        self.assertIs(is_possible(ONE, (0,) * 40, swapped), False)
        self.assertIs(is_possible(ranks_rule(1, 0), (0,) * 39 + (1,), swapped), True)
        self.assertIs(is_possible(ranks_rule(0, 1), (0,) * 39 + (1,), swapped), False)

    def test_the_rule_that_was_in_force(self):
        # After 0, Z lets the other lane go; by K the lane 1 cannot go before car 3 that has come.
        self.assertIs(is_possible(Z, (0, 0, 1), (0, 2, 1)), True)
        self.assertIs(is_possible(K, (0, 0, 1), (0, 2, 1)), False)

    def test_all_raise_no_order(self):
        calls = [lambda order: is_possible(Z, R, order), lambda order: overtaken(R, order),
                 lambda order: rivals(Z, R, order), lambda order: clashes(Z, R, order),
                 lambda order: verdict(Z, R, order), lambda order: bounds_of(Z, R, order),
                 lambda order: verdict_holds(Z, R, order, ("overtaken", 0)),
                 lambda order: verdict_holds(Z, R, order, ("history", "aaaaappppp")),
                 lambda order: verdict_holds(Z, R, order, None),
                 lambda order: possible_by(R, order), lambda order: possible_by(R, order, Z, K)]
        for order in WRONG_ORDERS + any_values():
            for call in calls:
                self.assert_error(NoOrder(), call, order)


class TestReasons(ErrorCase):
    def test_against_the_words_of_the_document(self):
        for rule, row in small_cases()[::3]:
            for order in all_orders(len(row)):
                expected = tuple(plain_rivals(rule, row, order, place) for place in range(len(row)))
                self.assert_same(rivals(rule, row, order), expected)
                self.assert_same(overtaken(row, order), plain_overtaken(row, order))
                self.assert_same(clashes(rule, row, order), plain_clashes(rule, row, order))

    def test_forty_cars(self):
        for rule, row, word, order in large_days(2):
            for value in (order, order[::-1], order[20:] + order[:20]):
                expected = tuple(plain_rivals(rule, row, value, place) for place in range(40))
                self.assert_same(rivals(rule, row, value), expected)
                self.assert_same(overtaken(row, value), plain_overtaken(row, value))
        rule, row, word, order = large_days(2)[0]
        self.assert_same(clashes(rule, row, order[::-1]), plain_clashes(rule, row, order[::-1]))

    def test_one_car_and_one_lane(self):
        self.assert_same(rivals(ONE, (0,), (0,)), ((),))
        self.assert_same(overtaken((0,), (0,)), ())
        self.assert_same(clashes(ONE, (0,), (0,)), ())
        self.assert_same(overtaken((0,) * 40, tuple(range(40))[::-1]), tuple(range(39)))
        self.assert_same(rivals(ONE, (0,) * 40, tuple(range(40))), ((),) * 40)
        self.assert_same(clashes(ONE, (0,) * 40, tuple(range(40))[::-1]), ())

    def test_up_to_five_rivals(self):
        row = (5, 4, 3, 2, 1, 0)
        self.assert_same(rivals(ranks_rule(0, 1, 2, 3, 4, 5), row, (0, 1, 2, 3, 4, 5))[0], (1, 2, 3, 4, 5))
        self.assert_same(rivals(ranks_rule(5, 4, 3, 2, 1, 0), row, (0, 1, 2, 3, 4, 5))[0], ())

    def test_one_of_both_reasons_exists_or_a_history(self):
        for rule, row in small_cases():
            found = by_order(rule, row)
            for order in all_orders(len(row)):
                reasons = overtaken(row, order) + clashes(rule, row, order)
                self.assertEqual(order in found, reasons == ())


class TestVerdict(ErrorCase):
    def test_against_the_listing(self):
        for rule, row in small_cases():
            found = by_order(rule, row)
            for order in all_orders(len(row)):
                told = verdict(rule, row, order)
                if order in found:
                    self.assertEqual((told[0], len(told)), ("history", 2))
                    self.assertIn(told[1], found[order])
                elif plain_overtaken(row, order):
                    self.assert_same(told, ("overtaken", plain_overtaken(row, order)[0]))
                else:
                    self.assert_same(told, ("clash", *plain_clashes(rule, row, order)[0]))
                self.assertIs(verdict_holds(rule, row, order, told), True)

    def test_forty_cars(self):
        for rule, row, word, order in large_days(3):
            kind, told = verdict(rule, row, order)
            self.assertEqual((kind, passing_order(rule, row, told)), ("history", order))
            self.assertIs(verdict_holds(rule, row, order, ("history", word)), True)
            self.assertIs(verdict_holds(rule, row, order, ("history", told)), True)
            self.assertIs(verdict_holds(rule, row, order, ("history", word[:-1])), False)
            self.assert_same(verdict(rule, row, order[::-1])[0], "overtaken")

    def test_both_reasons(self):
        order = (0, 3, 4, 2, 1)
        self.assert_same(overtaken(R, order), (1, 2))
        self.assert_same(clashes(Z, R, order), ((1, 2), (1, 3), (1, 4), (2, 3)))
        self.assert_same(verdict(Z, R, order), ("overtaken", 1))
        for car in (1, 2):
            self.assertIs(verdict_holds(Z, R, order, ("overtaken", car)), True)
        for one, other in ((1, 2), (1, 3), (1, 4), (2, 3)):
            self.assertIs(verdict_holds(Z, R, order, ("clash", one, other)), True)


class TestVerdictHolds(ErrorCase):
    def test_all_values_of_its_forms(self):
        for rule, row in small_cases()[::7]:
            found = by_order(rule, row)
            cars = range(-1, len(row) + 1)
            for order in all_orders(len(row)):
                for word in all_histories(len(row)):
                    self.assertIs(verdict_holds(rule, row, order, ("history", word)),
                                  word in found.get(order, []))
                for car in cars:
                    self.assertIs(verdict_holds(rule, row, order, ("overtaken", car)),
                                  car in plain_overtaken(row, order))
                for pair in product(cars, cars):
                    self.assertIs(verdict_holds(rule, row, order, ("clash", *pair)),
                                  pair in plain_clashes(rule, row, order))

    def test_wrong_values(self):
        possible, overtaking, clashing = (0, 2, 1, 4, 3), (1, 0, 2, 3, 4), (0, 1, 3, 2, 4)
        row, swapped = (0, 1, 0, 0), (1, 0, 3, 2)
        self.assertIs(verdict_holds(Z, row, swapped, ("overtaken", 2)), True)
        self.assertIs(verdict_holds(Z, R, overtaking, ("overtaken", 0)), True)
        self.assertIs(verdict_holds(Z, R, clashing, ("clash", 2, 3)), True)
        wrong = [
            ("history",), ("history", "aaaaappppp", 0), ["history", "aaaaappppp"], ("History", "aaaaappppp"),
            ("history", None), ("history", "aaaaapppp"), ("history", ("a", "p")), ("aaaaappppp",),
            "aaaaappppp", ("overtaken", False), ("overtaken", "0"), ("overtaken",), ["overtaken", 0],
            ("overtaken", (0,)), ("overtaken", 0, 0), ("overtaken", None), ("overtaken", 5),
            ("clash", 2), ("clash", (2, 3)), ("clash", 2, 3, 3), ("clash", 3, 2), ["clash", 2, 3],
            ("clash", "2", "3"), ("clash", None, 3), ("clash", 2, None), ("clash", [2], 3), (2, 3), (0,),
            (None, 2, 3), (None, 0), (["clash"], 2, 3), ("", 0), ("clash",), (), None, 0, True,
            (Rule(Z), 0), ("clash", Rule(Z), 3),
        ]
        for value in wrong + any_values():
            for order in (overtaking, clashing):
                self.assertIs(verdict_holds(Z, R, order, value), False, (order, value))
            if value != ("history", "aaaaappppp"):
                self.assertIs(verdict_holds(Z, R, possible, value), False, value)

    def test_bools_are_no_cars(self):
        self.assertIs(verdict_holds(ONE, (0, 0), (1, 0), ("overtaken", 0)), True)
        self.assertIs(verdict_holds(ONE, (0, 0), (1, 0), ("overtaken", False)), False)
        rule = ranks_rule(0, 1)
        self.assertIs(verdict_holds(rule, (0, 1), (1, 0), ("clash", 0, 1)), True)
        for one, other in ((False, 1), (0, True), (False, True)):
            self.assertIs(verdict_holds(rule, (0, 1), (1, 0), ("clash", one, other)), False)


class TestBounds(ErrorCase):
    def test_against_the_listing(self):
        for rule, row in small_cases():
            found = by_order(rule, row)
            for order in all_orders(len(row)):
                if order in found:
                    counts = [counts_by_letters(word) for word in found[order]]
                    least = tuple(map(min, zip(*counts)))
                    greatest = tuple(map(max, zip(*counts)))
                    self.assert_same(bounds_of(rule, row, order), (least, greatest))
                    self.assertTrue(least in counts and greatest in counts)
                else:
                    self.assert_error(Impossible(), bounds_of, rule, row, order)

    def test_forty_cars(self):
        self.assert_same(bounds_of(ONE, (0,) * 40, tuple(range(40))), ((0,) * 40, tuple(range(40))))
        for rule, row, word, order in large_days(4):
            least, greatest = bounds_of(rule, row, order)
            counts = counts_by_letters(word)
            self.assertTrue(all(low <= count <= high for low, count, high in zip(least, counts, greatest)))
            self.assertEqual((list(least), list(greatest)), (sorted(least), sorted(greatest)))
            self.assert_error(Impossible(), bounds_of, rule, row, order[::-1])

    def test_one_car(self):
        self.assert_same(bounds_of(ONE, (0,), (0,)), ((0,), (0,)))

    def test_an_overtaking_order_without_a_clash(self):
        self.assertEqual(clashes(ONE, (0, 0), (1, 0)), ())
        self.assert_error(Impossible(), bounds_of, ONE, (0, 0), (1, 0))


class TestPossibleBy(ErrorCase):
    def test_all_rules_of_two_lanes(self):
        rules = list(all_rules(2))
        for row in ((0,), (1, 0), (0, 1, 0), (0, 0, 1, 1), R):
            found = [by_order(rule, row) for rule in rules]
            for order in all_orders(len(row)):
                expected = tuple(index for index in range(8) if order in found[index])
                self.assert_same(possible_by(row, order, *rules), expected)

    def test_no_rules_and_rules_of_several_sizes(self):
        self.assert_same(possible_by((0,), (0,)), ())
        self.assert_same(possible_by((0,), (0,), ONE, Z, turns_rule(6), ONE), (0, 1, 2, 3))
        self.assert_same(possible_by((0, 1), (1, 0), Z, turns_rule(6), ranks_rule(2, 1, 0)), (2,))
        self.assert_same(possible_by((0, 0), (1, 0), ONE, Z), ())
        rule, row, word, order = large_days(5)[0]
        self.assert_same(possible_by(row, order, *[rule] * 50), tuple(range(50)))

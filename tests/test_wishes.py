"""[47] to [49]: wishes for histories."""

from itertools import product

from lanerules.errors import BadWish, NoOrder
from lanerules.histories import (count_histories, count_meeting, earliest, is_wish, meeting, wish_follows)
from lanerules.rules import Rule, ranks_rule
from tests.listing import Draws, all_orders, by_order, counts_by_letters, passing_order, small_cases
from tests.samples import ONE, R, Z, ErrorCase, any_values
from tests.test_orders import WRONG_ORDERS, large_days

O = (0, 2, 1, 4, 3)
WRONG_WISHES = [
    ("before", 0), ("before",), ("before", 0, 1, 2), ["before", 0, 1], ("Before", 0, 1), ("after", 0, 1), ("", 0, 1),
    (None, 0, 1), (0, 0, 1), ("before", 0, 5), ("before", 5, 0), ("before", -1, 0), ("behind", 0, -1),
    ("before", True, 0), ("behind", 0, False), ("before", None, 0), ("behind", 0, None), ("before", "0", 0),
    ("before", (0,), 0), ("behind", 0, [0]), "before", None, 0, True, (), (0, 1), (["before"], 0, 1), Rule(Z),
    (Rule(Z), 0, 1), ("before", Rule(Z), 1), (("before", 0, 1),), {"before": 0},
]


def meets(rule, row, word, wish):
    """By the letters of the word: where the car comes, and where the other one passes."""
    kind, car, other = wish
    comes = [at for at, letter in enumerate(word) if letter == "a"][car]
    place = passing_order(rule, row, word).index(other)
    passes = [at for at, letter in enumerate(word) if letter == "p"][place]
    return comes < passes if kind == "before" else comes > passes


def all_wishes(cars):
    return list(product(("before", "behind"), range(cars), range(cars)))


class TestIsWish(ErrorCase):
    def test_all_wishes(self):
        for cars in (1, 2, 5, 40):
            for wish in all_wishes(cars)[::1 + cars // 3]:
                self.assertIs(is_wish((0,) * cars, wish), True)
            for kind in ("before", "behind"):
                self.assertIs(is_wish((0,) * cars, (kind, cars - 1, cars)), False)
                self.assertIs(is_wish((0,) * cars, (kind, cars, cars - 1)), False)
                self.assertIs(is_wish((0,) * cars, (kind, cars - 1, cars - 1)), True)

    def test_wrong_values(self):
        for value in WRONG_WISHES + any_values():
            self.assertIs(is_wish(R, value), False, value)


class TestMeeting(ErrorCase):
    def check(self, rule, row, order, words, wishes):
        kept = [word for word in words if all(meets(rule, row, word, wish) for wish in wishes)]
        self.assert_same(count_meeting(rule, row, order, *wishes), len(kept))
        found = meeting(rule, row, order, *wishes)
        if kept:
            counts = [counts_by_letters(word) for word in kept]
            self.assertEqual(counts_by_letters(found), tuple(map(max, zip(*counts))))
            self.assertIn(found, kept)
        else:
            self.assertIs(found, None)
        return kept

    def test_each_wish_alone(self):
        for rule, row in small_cases()[::4]:
            found = by_order(rule, row)
            for order in all_orders(len(row)):
                for wish in all_wishes(len(row))[::1 + len(row) // 3]:
                    self.check(rule, row, order, found.get(order, []), [wish])

    def test_all_wishes_of_three_cars(self):
        for row in ((0, 1, 0), (0, 0, 1)):
            for order, words in by_order(Z, row).items():
                for wishes in product(all_wishes(3), repeat=2):
                    self.check(Z, row, order, words, wishes)

    def test_several_wishes(self):
        draws = Draws(71)
        seen = set()
        for rule, row in small_cases()[::2]:
            for order, words in by_order(rule, row).items():
                for many in (0, 2, 3, 4):
                    wishes = [all_wishes(len(row))[draws.below(2 * len(row) ** 2)] for _ in range(many)]
                    seen.add(len(self.check(rule, row, order, words, wishes)))
        self.assertTrue({0, 1, 2, 3} <= seen)

    def test_no_wishes(self):
        for rule, row in small_cases()[::9]:
            for order in all_orders(len(row)):
                self.assert_same(meeting(rule, row, order), earliest(rule, row, order))
                self.assert_same(count_meeting(rule, row, order), count_histories(rule, row, order))

    def test_a_car_and_itself(self):
        for car in range(5):
            self.assert_same(count_meeting(Z, R, O, ("before", car, car)), 22)
            self.assert_same(count_meeting(Z, R, O, ("behind", car, car)), 0)
            self.assert_same(meeting(Z, R, O, ("behind", car, car)), None)

    def test_impossible_orders(self):
        for order in ((1, 0, 2, 3, 4), (0, 1, 3, 2, 4)):
            self.assert_same(meeting(Z, R, order), None)
            self.assert_same(meeting(Z, R, order, ("before", 0, 0)), None)
            self.assert_same(count_meeting(Z, R, order, ("before", 0, 0)), 0)

    def test_forty_cars(self):
        row, order = (0,) * 40, tuple(range(40))
        self.assert_same(meeting(ONE, row, order, ("before", 39, 0)), "a" * 40 + "p" * 40)
        self.assert_same(count_meeting(ONE, row, order, ("before", 39, 0)), 1)
        self.assert_same(meeting(ONE, row, order, ("behind", 39, 38)), "ap" * 40)
        self.assert_same(meeting(ONE, row, order, ("behind", 1, 0), ("before", 1, 0)), None)
        self.assert_same(count_meeting(ONE, row, order, *[("behind", car + 1, car) for car in range(39)]), 1)
        for rule, row, word, order in large_days(72):
            wishes = []
            for car, other in product(range(0, 40, 9), range(0, 40, 11)):
                kind = "before" if meets(rule, row, word, ("before", car, other)) else "behind"
                wishes.append((kind, car, other))
            found = meeting(rule, row, order, *wishes)
            self.assertEqual(passing_order(rule, row, found), order)
            self.assertTrue(all(meets(rule, row, found, wish) for wish in wishes))
            self.assertTrue(1 <= count_meeting(rule, row, order, *wishes) <= count_histories(rule, row, order))

    def test_errors_in_their_order(self):
        for call in (meeting, count_meeting):
            for order in WRONG_ORDERS + any_values():
                self.assert_error(NoOrder(), call, Z, R, order)
                self.assert_error(NoOrder(), call, Z, R, order, None)
            for value in WRONG_WISHES + any_values():
                for order in (O, (1, 0, 2, 3, 4)):
                    self.assert_error(BadWish(0), call, Z, R, order, value)
                    self.assert_error(BadWish(1), call, Z, R, order, ("before", 0, 1), value, None)
                    self.assert_error(BadWish(2), call, Z, R, order, ("behind", 0, 1), ("before", 4, 4), value)


class TestFollows(ErrorCase):
    def test_against_the_listing(self):
        draws = Draws(73)
        seen = set()
        for rule, row in small_cases()[::3]:
            found = by_order(rule, row)
            for order in all_orders(len(row))[::2]:
                wishes = [all_wishes(len(row))[draws.below(2 * len(row) ** 2)] for _ in range(draws.below(3))]
                words = [word for word in found.get(order, [])
                         if all(meets(rule, row, word, other) for other in wishes)]
                for wish in all_wishes(len(row))[::1 + len(row) // 3]:
                    expected = all(meets(rule, row, word, wish) for word in words)
                    seen.add((expected, len(words) > 0, wish[0]))
                    self.assertIs(wish_follows(rule, row, order, wish, *wishes), expected)
        self.assertEqual(len(seen), 6)

    def test_forty_cars(self):
        row, order = (0,) * 40, tuple(range(40))
        self.assertIs(wish_follows(ONE, row, order, ("before", 39, 39)), True)
        self.assertIs(wish_follows(ONE, row, order, ("before", 39, 38)), False)
        self.assertIs(wish_follows(ONE, row, order, ("behind", 39, 0), ("behind", 1, 0)), True)
        self.assertIs(wish_follows(ONE, row, order, ("before", 0, 0), ("before", 39, 0)), True)
        self.assertIs(wish_follows(ONE, row, order, ("before", 20, 0), ("before", 39, 0)), True)
        self.assertIs(wish_follows(ranks_rule(1, 0), (0,) * 39 + (1,), (39, *range(39)), ("before", 38, 39)), True)

    def test_no_histories(self):
        for wish in all_wishes(5):
            self.assertIs(wish_follows(Z, R, (1, 0, 2, 3, 4), wish), True)
            self.assertIs(wish_follows(Z, R, O, wish, ("behind", 0, 0)), True)

    def test_errors_in_their_order(self):
        for order in WRONG_ORDERS + any_values():
            self.assert_error(NoOrder(), wish_follows, Z, R, order, None)
            self.assert_error(NoOrder(), wish_follows, Z, R, order, ("before", 0, 1), None)
        for value in WRONG_WISHES + any_values():
            for order in (O, (0, 1, 3, 2, 4)):
                self.assert_error(BadWish(None), wish_follows, Z, R, order, value)
                self.assert_error(BadWish(None), wish_follows, Z, R, order, value, None)
                self.assert_error(BadWish(0), wish_follows, Z, R, order, ("before", 0, 1), value)
                self.assert_error(BadWish(1), wish_follows, Z, R, order, ("before", 0, 1), ("behind", 0, 1), value)

"""[57]: the smallest days that tell two rules apart."""

from itertools import product

from lanerules.errors import OtherLanes
from lanerules.fairness import telling_day, telling_days
from lanerules.rules import ranks_rule, turns_rule
from tests.listing import Draws, all_histories, passing_order, rows
from tests.samples import K, ONE, Z, ErrorCase, all_rules


def listed_day(rule, other):
    """The first one of all rows and histories, by the number of cars and then in their order."""
    for cars in (1, 2, 3):
        for row, word in product(sorted(rows(len(rule) - 1, cars)), sorted(all_histories(cars))):
            if passing_order(rule, row, word) != passing_order(other, row, word):
                return (row, word)
    return None


def swapped(rule, at, place):
    """The rule with two neighbours of one preference swapped."""
    items = list(rule[at])
    items[place], items[place + 1] = items[place + 1], items[place]
    return (*rule[:at], tuple(items), *rule[at + 1:])


class TestTellingDay(ErrorCase):
    def test_all_rules_of_two_lanes(self):
        for rule, other in product(all_rules(2), repeat=2):
            self.assert_same(telling_day(rule, other), listed_day(rule, other))

    def test_rules_of_three_lanes(self):
        every = list(all_rules(3))
        for rule in every[::131]:
            for other in every[::97]:
                self.assert_same(telling_day(rule, other), listed_day(rule, other))
            for at, place in product(range(4), range(2)):
                other = swapped(rule, at, place)
                self.assert_same(telling_day(rule, other), listed_day(rule, other))

    def test_rules_of_six_lanes(self):
        draws = Draws(57)
        for rule in (draws.rule(6), turns_rule(6), ranks_rule(0, 1, 2, 3, 4, 5)):
            for at, place in ((0, 0), (0, 4), (1, 4), (3, 2), (6, 0), (6, 4)):
                other = swapped(rule, at, place)
                self.assert_same(telling_day(rule, other), listed_day(rule, other))
            self.assertIsNone(telling_day(rule, tuple(rule)))

    def test_the_number_of_cars(self):
        for rule, other in product(all_rules(2), repeat=2):
            day = telling_day(rule, other)
            if rule == other:
                self.assertIsNone(day)
            else:
                self.assertEqual(len(day[0]), 2 if rule[0] != other[0] else 3)

    def test_one_lane(self):
        self.assertIsNone(telling_day(ONE, ((0,), (0,))))

    def test_other_lanes(self):
        for rule, other in product((ONE, Z, turns_rule(3), turns_rule(6)), repeat=2):
            if len(rule) != len(other):
                self.assert_error(OtherLanes(len(other) - 1), telling_day, rule, other)
                self.assert_error(OtherLanes(len(other) - 1), telling_days, rule, rule, other, ONE)


class TestTellingDays(ErrorCase):
    def test_as_the_single_days(self):
        others = list(all_rules(2))
        self.assert_same(telling_days(Z, *others), tuple(telling_day(Z, other) for other in others))
        self.assert_same(telling_days(Z), ())
        self.assert_same(telling_days(K, K), (None,))

    def test_the_first_error(self):
        self.assert_error(OtherLanes(3), telling_days, Z, K, turns_rule(3), ONE)
        self.assert_error(OtherLanes(1), telling_days, Z, K, ONE, turns_rule(3))

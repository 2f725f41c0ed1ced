"""[55] and [56]: how long cars wait and are passed over, and the worst days of a lane."""

from itertools import product

from lanerules.errors import BadWord, NoCount, NoLane
from lanerules.fairness import bound_of, passed_over, waits, worst_day
from lanerules.rules import is_history, is_row, ranks_rule, turns_rule, word_error
from tests.listing import Draws, passing_order, rows
from tests.runs import lanes, listed_bound, mild_rule, some_rules, watched
from tests.samples import K, ONE, R, Z, ErrorCase, all_rules, all_words, any_values, play


def passed_in(rule, row, word):
    return [car for letter, car, after in play(rule, row, word) if letter == "p"]


class TestDelays(ErrorCase):
    def check(self, rule, row, word):
        expected = watched(row, word, passed_in(rule, row, word))
        self.assert_same((waits(rule, row, word), passed_over(rule, row, word)), expected)

    def test_all_words_of_small_rows(self):
        for cars in (1, 2, 3):
            for rule, row, word in product(all_rules(2), rows(2, cars), all_words(cars)):
                self.check(rule, row, word)
        for rule, row, word in product(list(all_rules(3))[::211], rows(3, 4)[::4], all_words(4)):
            self.check(rule, row, word)

    def test_no_letters_and_one_lane(self):
        self.assert_same((waits(Z, R, ""), passed_over(Z, R, "")), ((), ()))
        self.assert_same((waits(ONE, (0, 0, 0), "aaapp"), passed_over(ONE, (0, 0, 0), "aaapp")), ((0, 1, 2), (0, 0, 0)))

    def test_forty_cars_of_six_lanes(self):
        draws = Draws(55)
        for _ in range(30):
            row, word = draws.row(6, 40), draws.word(40)
            self.check(draws.rule(6), row, word[:draws.below(81)])
        row = (5,) + (0,) * 39
        word = "a" * 40 + "p" * 40
        self.assert_same(passed_over(ranks_rule(0, 1, 2, 3, 4, 5), row, word), (39,) + (0,) * 39)
        self.assert_same(waits(ranks_rule(0, 1, 2, 3, 4, 5), row, word), (39, *range(39)))

    def test_only_the_first_of_a_lane_is_passed_over(self):
        self.assert_same(passed_over(K, (1, 1, 0, 0), "aaaapp"), (2, 0, 0, 0))
        self.assert_same(waits(K, (1, 1, 0, 0), "aaaapp"), (2, 2, 0, 1))
        self.assert_same(passed_over(K, (1, 1, 0, 0), "aapaappp"), (0, 2, 0, 0))

    def test_bad_words(self):
        for call in (waits, passed_over):
            for word in ["p", "ax", "aaaaaa", "app", "apapp", None, 0, ("a",), ["a"], *any_values()]:
                self.assert_error(BadWord(word_error(R, word)), call, Z, R, word)


class TestWorstDays(ErrorCase):
    def check(self, rule, lane, count):
        """The day is as the definition demands."""
        row, word, car = worst_day(rule, lane, count)
        self.assertTrue(is_row(rule, row) and is_history(row, word))
        self.assertTrue(type(car) is int and row[car] == lane)
        waited, overs = watched(row, word, passing_order(rule, row, word))
        self.assertEqual(overs[car], count)

    def test_small_rules(self):
        for rule in some_rules():
            for lane in lanes(rule):
                bound = listed_bound(rule, lane)
                for count in (0, 1, 2, 3, 4, 9, 38):
                    if bound is not None and bound < count:
                        self.assertIsNone(worst_day(rule, lane, count))
                    else:
                        self.check(rule, lane, count)

    def test_no_day_of_the_listing_is_worse(self):
        for rule in list(all_rules(2)):
            for lane in lanes(rule):
                worst = 0
                for row, word in product(rows(2, 4), all_words(4)):
                    overs = watched(row, word, passed_in(rule, row, word))[1]
                    worst = max([worst, *[over for car, over in enumerate(overs) if row[car] == lane]])
                # Two cars more than count are enough for a worst day, so four cars show all of these.
                for count in range(3):
                    self.assertEqual(worst_day(rule, lane, count) is None, count > worst, (rule, lane, count))

    def test_one_and_six_lanes(self):
        self.check(ONE, 0, 0)
        self.assertIsNone(worst_day(ONE, 0, 1))
        self.assertIsNone(worst_day(ONE, 0, 38))
        draws = Draws(56)
        for rule in [turns_rule(6), ranks_rule(5, 4, 3, 2, 1, 0), *[mild_rule(draws, 6) for _ in range(12)]]:
            for lane in range(6):
                bound = bound_of(rule, lane)
                for count in range(39):
                    if bound is None or count <= bound:
                        self.check(rule, lane, count)
                    else:
                        self.assertIsNone(worst_day(rule, lane, count))

    def test_forty_cars(self):
        row, word, car = worst_day(K, 1, 38)
        self.assertLessEqual(len(row), 40)
        self.check(K, 1, 38)

    def test_errors(self):
        for count in [39, 40, -1, None, "3", *any_values()]:
            if count not in (6, 7) or isinstance(count, bool):
                error = self.assert_error(NoCount(count), worst_day, Z, 1, count)
                self.assertIs(error.value, count)
                self.assert_error(NoLane(2), worst_day, Z, 2, count)
        for lane in [None, 2, *any_values()]:
            self.assert_error(NoLane(lane), worst_day, Z, lane, 0)

    def test_equal_calls(self):
        self.assert_same(worst_day(K, 1, 5), worst_day(K, 1, 5))

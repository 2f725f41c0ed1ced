"""[38] to [43]: the histories with an order, counted and numbered."""

from inspect import isgenerator
from itertools import islice, product
from math import comb

from lanerules.errors import BadCount, NoHistory, NoIndex, NoOrder, TooLarge
from lanerules.histories import (count_histories, counts_of, each_history, earliest, history_at, history_index, latest,
                                 word_from)
from lanerules.orders import bounds_of
from lanerules.rules import Rule, ranks_rule
from tests.listing import (Draws, all_histories, all_orders, by_order, counts_by_letters, passing_order, small_cases)
from tests.samples import K, ONE, R, Z, ErrorCase, any_values
from tests.test_orders import WRONG_ORDERS, large_days

CATALAN_40 = comb(80, 40) // 41


def between(least, greatest):
    """How many tuples that never fall lie between the two, counted anew from the left."""
    ways = {0: 1}
    for low, high in zip(least, greatest):
        ways = {count: sum(ways[other] for other in ways if other <= count) for count in range(low, high + 1)}
    return sum(ways.values())


class TestCounts(ErrorCase):
    def test_all_small_histories(self):
        for cars in (1, 2, 3, 4, 5):
            for word in all_histories(cars):
                counts = counts_by_letters(word)
                self.assert_same(counts_of((0,) * cars, word), counts)
                self.assert_same(word_from(*counts), word)

    def test_all_small_tuples(self):
        for cars in (1, 2, 3, 4):
            words = {counts_by_letters(word): word for word in all_histories(cars)}
            for counts in product(range(-1, cars + 1), repeat=cars):
                if counts in words:
                    self.assert_same(word_from(*counts), words[counts])
                else:
                    wrong = [at for at in range(cars)
                             if not (counts[at - 1] if at else 0) <= counts[at] <= at]
                    self.assert_error(BadCount(wrong[0]), word_from, *counts)

    def test_forty_cars(self):
        draws = Draws(51)
        for word in ("ap" * 40, "a" * 40 + "p" * 40, draws.word(40), draws.word(40)):
            self.assert_same(counts_of((0,) * 40, word), counts_by_letters(word))
            self.assert_same(word_from(*counts_by_letters(word)), word)

    def test_too_few_and_too_many(self):
        self.assert_error(TooLarge(40), word_from)
        self.assert_error(TooLarge(40), word_from, *[0] * 41)
        self.assert_error(TooLarge(40), word_from, *[None] * 41)
        self.assert_error(TooLarge(40), word_from, *range(60))
        self.assert_same(word_from(*[0] * 40), "a" * 40 + "p" * 40)

    def test_values_that_are_no_counts(self):
        for value in [None, True, False, "0", (0,), [0], -1, 1, 10 ** 39, Rule(Z)]:
            self.assert_error(BadCount(0), word_from, value)
            self.assert_error(BadCount(0), word_from, value, 0)
        for value in [*any_values(), None, 0]:
            if isinstance(value, bool) or value != 1:
                self.assert_error(BadCount(2), word_from, 0, 1, value)
        self.assert_error(BadCount(1), word_from, 0, 2, None)
        self.assert_error(BadCount(1), word_from, 0, True)

    def test_words_that_are_no_histories(self):
        for word in ["", "a", "aap", "apapap", "paap", "axpp", None, 0, ("a", "p"), ["aapp"], *any_values()]:
            self.assert_error(NoHistory(), counts_of, (0, 1), word)


class TestErrors(ErrorCase):
    def test_no_order_first(self):
        calls = [lambda order: earliest(Z, R, order), lambda order: latest(Z, R, order),
                 lambda order: count_histories(Z, R, order), lambda order: history_at(Z, R, order, None),
                 lambda order: history_index(Z, R, order, None), lambda order: next(each_history(Z, R, order)),
                 lambda order: list(each_history(Z, R, order, start=10 ** 39))]
        for order in WRONG_ORDERS + any_values():
            for call in calls:
                self.assert_error(NoOrder(), call, order)

    def test_indexes_that_are_none(self):
        for order, many in (((0, 1, 2, 3, 4), 10), ((0, 2, 1, 4, 3), 22), ((1, 0, 2, 3, 4), 0)):
            for index in [-1, many, many + 1, -many - 1, True, False, None, "0", (0,), [0], 10 ** 39, Rule(Z)]:
                error = self.assert_error(NoIndex(index), history_at, Z, R, order, index)
                self.assertIs(error.index, index)
        for index in any_values():
            self.assert_error(NoIndex(index), history_at, Z, (0, 1), (0, 1), index)
        self.assert_error(NoIndex(0), history_at, ONE, (0, 0), (1, 0), 0)

    def test_words_that_are_none(self):
        for word in ["", "aaaaapppp", "apapapapap", "p", None, 0, ("a",), ["a"], *any_values()]:
            self.assert_error(NoHistory(), history_index, Z, R, (0, 2, 1, 4, 3), word)
            self.assert_error(NoHistory(), history_index, Z, R, (1, 0, 2, 3, 4), word)
        self.assert_error(NoHistory(), history_index, ONE, (0, 0), (1, 0), "aapp")


class TestListing(ErrorCase):
    def test_against_the_listing(self):
        for rule, row in small_cases():
            found = by_order(rule, row)
            for order in all_orders(len(row)):
                words = found.get(order, [])
                self.assert_same(count_histories(rule, row, order), len(words))
                self.assert_same(earliest(rule, row, order), words[-1] if words else None)
                self.assert_same(latest(rule, row, order), words[0] if words else None)
                self.assert_same(list(each_history(rule, row, order)), words)
                for index, word in enumerate(words):
                    self.assert_same(history_at(rule, row, order, index), word)
                    self.assert_same(history_index(rule, row, order, word), index)

    def test_the_greatest_and_the_least_counts(self):
        for rule, row in small_cases()[::4]:
            for order, words in by_order(rule, row).items():
                counts = [counts_by_letters(word) for word in words]
                self.assertEqual(counts_by_letters(earliest(rule, row, order)), tuple(map(max, zip(*counts))))
                self.assertEqual(counts_by_letters(latest(rule, row, order)), tuple(map(min, zip(*counts))))

    def test_words_of_other_orders(self):
        for rule, row in small_cases()[::9]:
            found = by_order(rule, row)
            for order, other in product(found, found):
                if order != other:
                    self.assert_error(NoHistory(), history_index, rule, row, order, found[other][0])

    def test_from_each_number_on(self):
        for rule, row in small_cases()[::9]:
            for order, words in by_order(rule, row).items():
                for start in range(len(words) + 2):
                    self.assert_same(list(each_history(rule, row, order, start=start)), words[start:])
                self.assert_same(list(each_history(rule, row, order, start=10 ** 40 - 1)), [])

    def test_no_histories(self):
        self.assert_same(list(each_history(ONE, (0, 0), (1, 0))), [])
        self.assert_same(list(each_history(ONE, (0, 0), (1, 0), start=5)), [])
        self.assert_same(count_histories(ONE, (0, 0), (1, 0)), 0)

    def test_eight_cars(self):
        for rule, row in ((Z, (0, 1, 0, 0, 1, 1, 0, 1)), (K, (0, 0, 1, 0, 1, 1, 0, 1))):
            for order, words in list(by_order(rule, row).items())[::5]:
                self.assert_same(count_histories(rule, row, order), len(words))
                self.assert_same(list(each_history(rule, row, order)), words)


class TestForty(ErrorCase):
    def test_one_lane(self):
        row, order = (0,) * 40, tuple(range(40))
        self.assert_same(count_histories(ONE, row, order), CATALAN_40)
        self.assert_same(earliest(ONE, row, order), "ap" * 40)
        self.assert_same(latest(ONE, row, order), "a" * 40 + "p" * 40)
        self.assert_same(history_at(ONE, row, order, 0), "a" * 40 + "p" * 40)
        self.assert_same(history_at(ONE, row, order, CATALAN_40 - 1), "ap" * 40)
        self.assert_same(history_index(ONE, row, order, "ap" * 40), CATALAN_40 - 1)
        self.assert_error(NoIndex(CATALAN_40), history_at, ONE, row, order, CATALAN_40)
        self.assert_same(list(each_history(ONE, row, order, start=CATALAN_40 - 1)), ["ap" * 40])
        self.assert_same(list(each_history(ONE, row, order, start=CATALAN_40)), [])
        first = list(islice(each_history(ONE, row, order), 3))
        self.assert_same(first, ["a" * 40 + "p" * 40, "a" * 39 + "pa" + "p" * 39, "a" * 39 + "ppa" + "p" * 38])

    def test_six_lanes(self):
        draws = Draws(52)
        for rule, row, word, order in large_days(53):
            total = count_histories(rule, row, order)
            self.assert_same(total, between(*bounds_of(rule, row, order)))
            self.assertEqual(history_at(rule, row, order, history_index(rule, row, order, word)), word)
            for index in {0, total - 1, total // 2, draws.below(2 ** 31) % total}:
                found = history_at(rule, row, order, index)
                self.assertEqual(passing_order(rule, row, found), order)
                self.assertEqual(history_index(rule, row, order, found), index)
                walk = list(islice(each_history(rule, row, order, start=index), 4))
                expected = [history_at(rule, row, order, other) for other in range(index, min(index + 4, total))]
                self.assertEqual(walk, expected)
                counts = [counts_by_letters(other) for other in walk]
                self.assertEqual(counts, sorted(set(counts)))
            self.assertEqual(passing_order(rule, row, earliest(rule, row, order)), order)
            self.assertEqual(passing_order(rule, row, latest(rule, row, order)), order)
            self.assertEqual(earliest(rule, row, order), history_at(rule, row, order, total - 1))
            self.assertEqual(latest(rule, row, order), history_at(rule, row, order, 0))
            self.assert_same(count_histories(rule, row, order[::-1]), 0)

    def test_one_car(self):
        self.assert_same([count_histories(ONE, (0,), (0,)), earliest(ONE, (0,), (0,)), history_at(ONE, (0,), (0,), 0),
                          history_index(ONE, (0,), (0,), "ap")], [1, "ap", "ap", 0])


class TestWalks(ErrorCase):
    def test_generators(self):
        self.assertTrue(isgenerator(each_history(Z, R, (0, 1, 2, 3, 4))))
        one, other = each_history(Z, R, (0, 1, 2, 3, 4)), each_history(Z, R, (0, 1, 2, 3, 4), start=1)
        self.assertEqual([next(one), next(one), next(one)][1:], [next(other), next(other)])
        self.assertEqual(list(one), list(other))
        self.assertEqual(len(list(each_history(Z, R, (0, 1, 2, 3, 4)))), 10)

    def test_start_is_passed_by_keyword(self):
        with self.assertRaises(TypeError):
            each_history(Z, R, (0, 1, 2, 3, 4), 1)

    def test_of_any_two_the_least_and_the_greatest_are_histories_too(self):
        for rule, row in small_cases()[::11] + [(ranks_rule(1, 0), (0, 0, 1, 0, 1))]:
            for order, words in by_order(rule, row).items():
                counts = [counts_by_letters(word) for word in words]
                for one, other in product(counts, counts):
                    self.assertIn(tuple(map(min, zip(one, other))), counts)
                    self.assertIn(tuple(map(max, zip(one, other))), counts)

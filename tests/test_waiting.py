"""[44] to [46]: who waits when, the longest lines, and histories that are merged."""

from itertools import product

from lanerules.errors import Impossible, NoCar, NoHistory, NoLane, NoOrder, OtherOrder
from lanerules.histories import (longest_in_lane, longest_line, merged, waits_at_arrival, waits_at_passing)
from lanerules.rules import Rule, ranks_rule, turns_rule
from tests.listing import Draws, by_order, counts_by_letters, passing_order, small_cases
from tests.samples import K, ONE, R, Z, ErrorCase, any_values, play
from tests.test_orders import WRONG_ORDERS, large_days

O = (0, 2, 1, 4, 3)
NO_CARS = [-1, 5, 6, 10 ** 39, True, False, None, "0", (0,), [0], {}, Rule(Z)]


def waiting_before(rule, row, word):
    """For each letter and its car: the cars that wait just before it."""
    before, found = (), {}
    for letter, car, after in play(rule, row, word):
        found[letter, car] = before
        before = after
    return found


def told(answers):
    """always, sometimes or never, by the answers for all histories."""
    if all(answers):
        return "always"
    return "sometimes" if any(answers) else "never"


class TestWaits(ErrorCase):
    def test_against_the_listing(self):
        seen = set()
        for rule, row in small_cases():
            for order, words in by_order(rule, row).items():
                lines = [waiting_before(rule, row, word) for word in words]
                for one, other in product(range(len(row)), repeat=2):
                    arrival = told([one in line["a", other] for line in lines])
                    passing = told([one != other and one in line["p", other] for line in lines])
                    seen |= {("a", arrival), ("p", passing)}
                    self.assert_same(waits_at_arrival(rule, row, order, one, other), arrival)
                    self.assert_same(waits_at_passing(rule, row, order, one, other), passing)
        self.assertEqual(len(seen), 6)

    def test_no_car_waits_for_itself(self):
        for car in range(5):
            self.assert_same(waits_at_arrival(Z, R, O, car, car), "never")
            self.assert_same(waits_at_passing(Z, R, O, car, car), "never")
        self.assert_same(waits_at_arrival(ONE, (0,), (0,), 0, 0), "never")
        self.assert_same(waits_at_passing(ONE, (0,), (0,), 0, 0), "never")

    def test_forty_cars(self):
        row, order = (0,) * 40, tuple(range(40))
        self.assert_same(waits_at_arrival(ONE, row, order, 38, 39), "sometimes")
        self.assert_same(waits_at_arrival(ONE, row, order, 39, 38), "never")
        self.assert_same(waits_at_passing(ONE, row, order, 39, 0), "sometimes")
        self.assert_same(waits_at_passing(ONE, row, order, 0, 39), "never")
        late = (39, *range(39))
        rule, row = ranks_rule(1, 0), (0,) * 39 + (1,)
        self.assert_same(waits_at_arrival(rule, row, late, 0, 39), "always")
        self.assert_same(waits_at_passing(rule, row, late, 38, 39), "always")
        for rule, row, word, order in large_days(61):
            line = waiting_before(rule, row, word)
            for one, other in product(range(0, 40, 7), range(40)):
                arrival = waits_at_arrival(rule, row, order, one, other)
                self.assertIn(arrival, ("always", "sometimes") if one in line["a", other] else ("never", "sometimes"))
                passing = waits_at_passing(rule, row, order, one, other)
                waits = one != other and one in line["p", other]
                self.assertIn(passing, ("always", "sometimes") if waits else ("never", "sometimes"))

    def test_errors_in_their_order(self):
        for call in (waits_at_arrival, waits_at_passing):
            for order in WRONG_ORDERS + any_values():
                self.assert_error(NoOrder(), call, Z, R, order, None, None)
            for car in NO_CARS + any_values():
                error = self.assert_error(NoCar(car), call, Z, R, O, car, 0)
                self.assertIs(error.value, car)
                error = self.assert_error(NoCar(car), call, Z, R, O, 4, car)
                self.assertIs(error.value, car)
                self.assert_error(NoCar(car), call, Z, R, O, car, None)
                self.assert_error(NoCar(car), call, Z, R, (1, 0, 2, 3, 4), car, None)
                self.assert_error(NoCar(car), call, Z, R, (0, 1, 3, 2, 4), 0, car)
            self.assert_error(Impossible(), call, Z, R, (1, 0, 2, 3, 4), 0, 1)
            self.assert_error(Impossible(), call, Z, R, (0, 1, 3, 2, 4), 0, 0)


class TestLongest(ErrorCase):
    def test_against_the_listing(self):
        for rule, row in small_cases():
            for order, words in by_order(rule, row).items():
                steps = [play(rule, row, word) for word in words]
                most = [max(len(after) for letter, car, after in day) for day in steps]
                self.assert_same(longest_line(rule, row, order), (min(most), max(most)))
                for lane in range(len(rule) - 1):
                    most = [max(len([car for car in after if row[car] == lane]) for letter, one, after in day)
                            for day in steps]
                    self.assert_same(longest_in_lane(rule, row, order, lane), (min(most), max(most)))

    def test_forty_cars(self):
        row, order = (0,) * 40, tuple(range(40))
        self.assert_same(longest_line(ONE, row, order), (1, 40))
        self.assert_same(longest_in_lane(ONE, row, order, 0), (1, 40))
        self.assert_same(longest_in_lane(turns_rule(6), row, order, 5), (0, 0))
        rule, late = ranks_rule(1, 0), (39, *range(39))
        self.assert_same(longest_line(rule, (0,) * 39 + (1,), late), (40, 40))
        self.assert_same(longest_in_lane(rule, (0,) * 39 + (1,), late, 0), (39, 39))
        self.assert_same(longest_in_lane(rule, (0,) * 39 + (1,), late, 1), (1, 1))
        for rule, row, word, order in large_days(62):
            afters = [after for letter, car, after in play(rule, row, word)]
            least, greatest = longest_line(rule, row, order)
            self.assertTrue(least <= max(map(len, afters)) <= greatest)
            for lane in range(6):
                most = max(len([car for car in after if row[car] == lane]) for after in afters)
                least, greatest = longest_in_lane(rule, row, order, lane)
                self.assertTrue(least <= most <= greatest)

    def test_one_car(self):
        self.assert_same(longest_line(ONE, (0,), (0,)), (1, 1))
        self.assert_same(longest_in_lane(Z, (1,), (0,), 1), (1, 1))
        self.assert_same(longest_in_lane(Z, (1,), (0,), 0), (0, 0))

    def test_errors_in_their_order(self):
        for order in WRONG_ORDERS + any_values():
            self.assert_error(NoOrder(), longest_line, Z, R, order)
            self.assert_error(NoOrder(), longest_in_lane, Z, R, order, None)
        for lane in [-1, 2, 6, True, False, None, "0", (0,), [0], Rule(Z), *any_values()]:
            for order in (O, (1, 0, 2, 3, 4), (0, 1, 3, 2, 4)):
                error = self.assert_error(NoLane(lane), longest_in_lane, Z, R, order, lane)
                self.assertIs(error.value, lane)
        for order in ((1, 0, 2, 3, 4), (0, 1, 3, 2, 4)):
            self.assert_error(Impossible(), longest_line, Z, R, order)
            self.assert_error(Impossible(), longest_in_lane, Z, R, order, 1)


class TestMerged(ErrorCase):
    def test_against_the_listing(self):
        draws = Draws(63)
        for rule, row in small_cases()[::3]:
            for order, words in by_order(rule, row).items():
                by_counts = {counts_by_letters(word): word for word in words}
                for many in (1, 2, 3, 5):
                    chosen = [words[draws.below(len(words))] for _ in range(many)]
                    counts = [counts_by_letters(word) for word in chosen]
                    least, greatest = tuple(map(min, zip(*counts))), tuple(map(max, zip(*counts)))
                    self.assert_same(merged(rule, row, *chosen), by_counts[least])
                    self.assert_same(merged(rule, row, *chosen, most=False), by_counts[least])
                    self.assert_same(merged(rule, row, *chosen, most=True), by_counts[greatest])

    def test_words_of_several_orders(self):
        for rule, row in small_cases()[::5]:
            found = by_order(rule, row)
            for one, other in product(found, found):
                if one != other:
                    for most in (False, True):
                        self.assert_error(OtherOrder(), lambda: merged(rule, row, found[one][0], found[other][-1],
                                                                       most=most))
                    self.assert_error(OtherOrder(), merged, rule, row, found[one][0], found[one][-1], found[other][0])

    def test_forty_cars(self):
        row = (0,) * 40
        self.assert_same(merged(ONE, row, "ap" * 40, "a" * 40 + "p" * 40), "a" * 40 + "p" * 40)
        self.assert_same(merged(ONE, row, "ap" * 40, "a" * 40 + "p" * 40, most=True), "ap" * 40)
        crossed = ("aapp" + "ap" * 38, "ap" * 38 + "aapp")
        self.assert_same(merged(ONE, row, *crossed), "aapp" + "ap" * 36 + "aapp")
        self.assert_same(merged(ONE, row, *crossed, most=True), "ap" * 40)
        for rule, row, word, order in large_days(64):
            for most in (False, True):
                self.assert_same(merged(rule, row, word, most=most), word)
                self.assertEqual(passing_order(rule, row, merged(rule, row, word, word, most=most)), order)

    def test_words_that_are_no_histories(self):
        for word in ["", "aap", "p", "axpp", None, 0, True, ("a",), ["aapp"], Rule(Z), *any_values()]:
            self.assert_error(NoHistory(), merged, Z, (0, 1), word)
            self.assert_error(NoHistory(), merged, Z, (0, 1), "aapp", word)
            self.assert_error(NoHistory(), merged, Z, (0, 1), word, "aapp")
            # The history at the front and the one at the end have different orders by K.
            self.assert_error(NoHistory(), merged, K, (1, 0), "aapp", "apap", word)
        self.assert_error(OtherOrder(), merged, K, (1, 0), "aapp", "apap")

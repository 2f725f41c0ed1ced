"""[8]: rules that are made from lanes or from their number."""

from itertools import permutations

from lanerules.errors import NoCount, NoPreference
from lanerules.rules import is_rule, polite_rule, ranks_rule, turns_rule
from tests.samples import ErrorCase, any_values

NO_PREFERENCES = [
    (), (1,), (-1,), (0, 0), (1, 1), (1, 2), (0, 2), (0, 1, 1), (0, 1, 3), (0, -1),
    tuple(range(7)), tuple(range(8)), (0,) * 40,
    (False,), (0, True), (False, 1), (1, False), (0, "1"), (0, None), ((0, 1),), ([0, 1],), ([0],),
]


class TestRanksRule(ErrorCase):
    def test_each_preference_is_the_tuple_of_the_lanes(self):
        for lanes in range(1, 7):
            for preference in permutations(range(lanes)):
                rule = ranks_rule(*preference)
                self.assertEqual(rule, tuple([preference] * (lanes + 1)))
                self.assertTrue(is_rule(rule))

    def test_no_preferences(self):
        for lanes in NO_PREFERENCES:
            self.assert_error(NoPreference(), ranks_rule, *lanes)

    def test_any_values(self):
        for value in any_values():
            self.assert_error(NoPreference(), ranks_rule, value)
            self.assert_error(NoPreference(), ranks_rule, 0, value)
            self.assert_error(NoPreference(), ranks_rule, value, 1)


class TestPoliteRule(ErrorCase):
    def test_the_last_lane_stands_at_the_end(self):
        for lanes in range(1, 7):
            for preference in permutations(range(lanes)):
                rule = polite_rule(*preference)
                self.assertTrue(is_rule(rule))
                self.assertEqual(rule[0], preference)
                for last in range(lanes):
                    at = preference.index(last)
                    expected = preference[:at] + preference[at + 1:] + (last,)
                    self.assertEqual(rule[1 + last], expected)

    def test_three_lanes(self):
        self.assertEqual(polite_rule(2, 0, 1), ((2, 0, 1), (2, 1, 0), (2, 0, 1), (0, 1, 2)))
        self.assertEqual(polite_rule(0), ((0,), (0,)))

    def test_no_preferences(self):
        for lanes in NO_PREFERENCES:
            self.assert_error(NoPreference(), polite_rule, *lanes)

    def test_any_values(self):
        for value in any_values():
            self.assert_error(NoPreference(), polite_rule, value)
            self.assert_error(NoPreference(), polite_rule, 0, value)


class TestTurnsRule(ErrorCase):
    def test_one_to_six_lanes(self):
        for lanes in range(1, 7):
            rule = turns_rule(lanes)
            self.assertTrue(is_rule(rule))
            self.assertEqual(rule[0], tuple(range(lanes)))
            for last in range(lanes):
                expected = tuple([(last + 1 + k) % lanes for k in range(lanes)])
                self.assertEqual(rule[1 + last], expected)

    def test_written_out(self):
        self.assertEqual(turns_rule(1), ((0,), (0,)))
        self.assertEqual(turns_rule(2), ((0, 1), (1, 0), (0, 1)))

    def test_no_counts(self):
        for count in [0, -1, 7, 8, 10 ** 39, True, False, None, "2", (2,), [2]]:
            self.assert_error(NoCount(count), turns_rule, count)

    def test_any_values(self):
        for value in any_values():
            if value == 6:
                continue
            error = self.assert_error(NoCount(value), turns_rule, value)
            self.assertIs(error.value, value)

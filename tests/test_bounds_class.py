"""[58]: the bounds of a rule as a value."""

from itertools import product

from lanerules.errors import BadRule, NoLane, OtherLanes
from lanerules.fairness import Bounds
from lanerules.rules import Rule, ranks_rule, rule_error, turns_rule
from tests.runs import lanes, listed_bound, some_rules
from tests.samples import K, ONE, Z, ErrorCase, all_rules, any_values

RANKS = ranks_rule(0, 1, 2, 3, 4, 5)


class TestCreation(ErrorCase):
    def test_errors(self):
        for value in [None, 0, (), Rule(Z), Bounds(Z), ((0, 1), (1, 0)), ((0, 1), (1, True), (0, 1)), *any_values()]:
            self.assert_error(BadRule(rule_error(value)), Bounds, value)


class TestItems(ErrorCase):
    def test_against_the_listing(self):
        for rule in some_rules():
            expected = [listed_bound(rule, lane) for lane in lanes(rule)]
            bounds = Bounds(rule)
            self.assert_same([bounds[lane] for lane in lanes(rule)], expected)
            self.assert_same([lane in bounds for lane in lanes(rule)], [bound is not None for bound in expected])
            self.assert_same((bool(bounds), len(bounds)), (None not in expected, len(expected)))

    def test_one_and_six_lanes(self):
        one, six, ranks = Bounds(ONE), Bounds(turns_rule(6)), Bounds(RANKS)
        self.assert_same((one[0], len(one), bool(one), 0 in one, 1 in one), (0, 1, True, True, False))
        self.assert_same((six[5], len(six), bool(six), 5 in six, 6 in six), (5, 6, True, True, False))
        self.assert_same((ranks[5], len(ranks), bool(ranks), 0 in ranks, 5 in ranks), (None, 6, False, True, False))

    def test_no_lane(self):
        bounds = Bounds(Z)
        for value in [None, 2, -2, *any_values()]:
            error = self.assert_error(NoLane(value), bounds.__getitem__, value)
            self.assertIs(error.value, value)
            self.assertIs(value in bounds, False)

    def test_no_loop(self):
        with self.assertRaises(TypeError):
            list(Bounds(Z))
        with self.assertRaises(TypeError):
            for bound in Bounds(ONE):
                pass


class TestComparing(ErrorCase):
    def test_at_most_by_the_definition(self):
        def key(bound):
            return 99 if bound is None else bound

        every = [*all_rules(2), *list(all_rules(3))[::61]]
        seen = set()
        for rule, other in product(every, repeat=2):
            if len(rule) == len(other):
                expected = all(key(listed_bound(rule, lane)) <= key(listed_bound(other, lane)) for lane in lanes(rule))
                self.assertIs(Bounds(rule).at_most(Bounds(other)), expected)
                seen.add(expected)
        self.assertEqual(seen, {True, False})

    def test_other_lanes(self):
        for rule, other in product((ONE, Z, RANKS), repeat=2):
            if rule != other:
                self.assert_error(OtherLanes(len(other) - 1), Bounds(rule).at_most, Bounds(other))

    def test_equal(self):
        every = [*all_rules(1), *all_rules(2), *list(all_rules(3))[::61]]
        for rule, other in product(every, repeat=2):
            expected = [listed_bound(rule, lane) for lane in lanes(rule)]
            same = expected == [listed_bound(other, lane) for lane in lanes(other)]
            self.assertIs(Bounds(rule) == Bounds(other), same)
            self.assertIs(Bounds(rule) != Bounds(other), not same)

    def test_not_equal_to_other_values(self):
        for value in [None, (1, 1), [1, 1], Z, Rule(Z), " 0    1\n 1    1", *any_values()]:
            self.assertFalse(Bounds(Z) == value)
            self.assertTrue(value != Bounds(Z))


class TestText(ErrorCase):
    def test_texts(self):
        self.assertEqual(str(Bounds(ONE)), " 0    0")
        self.assertEqual(str(Bounds(K)), " 0    0\n 1 none")
        self.assertEqual(str(Bounds(RANKS)), " 0    0\n 1 none\n 2 none\n 3 none\n 4 none\n 5 none")
        self.assertEqual(str(Bounds(turns_rule(6))), "\n".join(f" {lane}    5" for lane in range(6)))

"""[69]: crossings that keep how long lanes are passed over."""

from itertools import product

from lanerules.crossings import Crossing, WatchedCrossing
from lanerules.errors import BadRule, Empty, NoCount, PassedOver, TooManyEdits
from lanerules.fairness import bound_of, passed_over
from lanerules.rules import is_history, ranks_rule, rule_error, turns_rule
from tests.crossing_model import check_crossing
from tests.listing import Draws, rows
from tests.samples import K, ONE, Z, all_rules, all_words, any_values
from tests.test_crossings import NO_RULES, CrossingCase

RANKS = ranks_rule(0, 1, 2, 3, 4, 5)


def played(rule, row, word, **told):
    """A watched crossing on which the word takes place."""
    crossing, came = WatchedCrossing(rule, **told), 0
    for letter in word:
        if letter == "a":
            crossing.come(row[came])
            came += 1
        else:
            crossing.go()
    return crossing


class TestCreation(CrossingCase):
    def test_a_subclass(self):
        self.assertTrue(issubclass(WatchedCrossing, Crossing))
        self.assertIsInstance(WatchedCrossing.of(Z, 0), WatchedCrossing)

    def test_bounds(self):
        self.assert_same((WatchedCrossing(Z).bound, WatchedCrossing.of(Z, 0, 1).bound), (None, None))
        for bound in (0, 1, 39, 40, None):
            crossing = WatchedCrossing(Z, bound=bound)
            self.assert_same((crossing.bound, crossing.overs), (bound, (0, 0)))
        self.assert_same((WatchedCrossing(ONE).overs, WatchedCrossing(RANKS).overs), ((0,), (0,) * 6))

    def test_errors(self):
        for value in NO_RULES:
            self.assert_error(BadRule(rule_error(value)), lambda: WatchedCrossing(value, bound=-1))
        for bound in [41, -1, *[value for value in any_values() if value not in (6, 7) or isinstance(value, bool)]]:
            error = self.assert_error(NoCount(bound), lambda: WatchedCrossing(Z, bound=bound))
            self.assertIs(error.value, bound)

    def test_by_keyword_only(self):
        with self.assertRaises(TypeError):
            WatchedCrossing(Z, 3)

    def test_properties_can_only_be_read(self):
        crossing = WatchedCrossing(Z, bound=2)
        for name in ("overs", "bound", "cars", "length", "previous", "upcoming"):
            with self.assertRaises(AttributeError):
                setattr(crossing, name, 1)
            with self.assertRaises(AttributeError):
                delattr(crossing, name)
        check_crossing(self, crossing, Z, (), (), bound=2, kind=WatchedCrossing)

    def test_a_plain_crossing_has_neither(self):
        for name in ("overs", "bound"):
            self.assertFalse(hasattr(Crossing(Z), name))


class TestOvers(CrossingCase):
    def test_all_words_of_small_rows(self):
        for rule, row, word in product(list(all_rules(2)), rows(2, 4)[::3], all_words(4)[::2]):
            overs = passed_over(rule, row, word)
            expected = [max([over for car, over in enumerate(overs) if row[car] == lane], default=0) for lane in (0, 1)]
            self.assert_same(played(rule, row, word).overs, tuple(expected))

    def test_a_car_that_still_waits(self):
        crossing = WatchedCrossing.of(K, 1, 0, 0, 0)
        seen = []
        for _ in range(4):
            crossing.go()
            seen.append(crossing.overs)
        self.assert_same(seen, [(0, 1), (0, 2), (0, 3), (0, 3)])

    def test_each_first_car_is_counted_by_itself(self):
        # Car 0 is passed over once and passes; car 2 of its lane is passed over once, too.
        crossing = WatchedCrossing(Z)
        crossing.come_all(1, 0, 1, 0)
        crossing.go_until(2)
        self.assert_same((crossing.passed(), crossing.overs), ((1, 0, 3, 2), (1, 1)))

    def test_a_change_of_the_rule_goes_on_counting(self):
        crossing = WatchedCrossing.of(K, 1, 0, 0)
        crossing.go()
        crossing.change(Z)
        crossing.change(((0, 1), (0, 1), (1, 0)))
        crossing.go()
        self.assert_same((crossing.overs, str(crossing)), ((0, 2), "3 cars, 1 waiting, 4 edits, passed over 0 2"))

    def test_undo(self):
        crossing = WatchedCrossing.of(K, 1, 0, 0)
        seen = [crossing.go(), crossing.go(), crossing.overs, crossing.undo(), crossing.overs, crossing.undo(),
                crossing.overs]
        self.assert_same(seen, [1, 2, (0, 2), 1, (0, 1), 0, (0, 0)])

    def test_forty_cars_of_six_lanes(self):
        crossing = WatchedCrossing.of(RANKS, 5, *[0] * 39)
        crossing.go_until(0)
        self.assert_same((crossing.overs, str(crossing)),
                         ((0, 0, 0, 0, 0, 39), "40 cars, 0 waiting, 40 edits, passed over 0 0 0 0 0 39"))

    def test_never_more_than_the_bound_of_the_lane(self):
        draws = Draws(69)
        for _ in range(40):
            rule, row, word = draws.rule(3), draws.row(3, 20), draws.word(20)
            self.assertTrue(is_history(row, word))
            for lane, over in enumerate(played(rule, row, word).overs):
                bound = bound_of(rule, lane)
                self.assertTrue(bound is None or over <= bound)


class TestBound(CrossingCase):
    def test_go(self):
        for bound in (0, 1, 2, 3):
            crossing = WatchedCrossing(K, bound=bound)
            crossing.come_all(1, *[0] * 5)
            for _ in range(bound):
                crossing.go()
            self.assert_unchanged(crossing, PassedOver(1), crossing.go)
            self.assert_same((crossing.overs, crossing.upcoming), ((0, bound), bound + 1))
            crossing.change(((1, 0), (1, 0), (1, 0)))
            if bound == 0:
                self.assert_unchanged(crossing, PassedOver(0), crossing.go)
            else:
                self.assertEqual(crossing.go(), 8 + bound)

    def test_the_lowest_lane(self):
        for size in (3, 6):
            rule = ranks_rule(*reversed(range(size)))
            crossing = WatchedCrossing(rule, bound=0)
            crossing.come_all(*reversed(range(size)))
            self.assert_unchanged(crossing, PassedOver(0), crossing.go)
        crossing = WatchedCrossing(rule, bound=1)
        crossing.come_all(2, 3, 5, 5)
        crossing.go()
        self.assert_unchanged(crossing, PassedOver(2), crossing.go)

    def test_behind_the_errors_of_a_crossing(self):
        crossing = WatchedCrossing(K, bound=0)
        self.assert_unchanged(crossing, Empty(), crossing.go)
        crossing.come_all(1, 0)
        self.assert_unchanged(crossing, PassedOver(1), crossing.go)
        for _ in range(58):
            crossing.change(K)
        self.assert_unchanged(crossing, TooManyEdits(), crossing.go)

    def test_go_until(self):
        crossing = WatchedCrossing(K, bound=2)
        crossing.come_all(1, 0, 0, 0)
        self.assert_unchanged(crossing, PassedOver(1), crossing.go_until, 3)
        self.assert_unchanged(crossing, PassedOver(1), crossing.go_until, 0)
        self.assertEqual(crossing.go_until(2), 6)
        check_crossing(self, crossing, K, (), [("come", 1), *[("come", 0)] * 3, ("go",), ("go",)], bound=2,
                       kind=WatchedCrossing)

    def test_a_bound_of_forty_never_matters(self):
        crossing = WatchedCrossing(RANKS, bound=40)
        crossing.come_all(5, *[0] * 39)
        self.assertEqual(crossing.attempt([("go",)] * 20), 60)

    def test_undo_frees(self):
        crossing = WatchedCrossing(K, bound=1)
        crossing.come_all(1, 0, 0)
        crossing.go()
        self.assert_unchanged(crossing, PassedOver(1), crossing.go)
        crossing.undo()
        self.assertEqual(crossing.go(), 4)
        self.assert_unchanged(crossing, PassedOver(1), crossing.go)

    def test_a_copy_has_the_bound(self):
        crossing = WatchedCrossing(K, bound=1)
        crossing.come_all(1, 0, 0)
        crossing.go()
        copy = crossing.copy()
        self.assert_same((copy.bound, copy.overs, str(copy)), (1, (0, 1), str(crossing)))
        self.assert_unchanged(copy, PassedOver(1), copy.go)
        again = copy.copy()
        self.assert_same((again.bound, again.undo(), again.overs), (1, 3, (0, 0)))
        self.assert_same((crossing.bound, crossing.overs), (1, (0, 1)))

    def test_foresee_looks_at_the_rule_alone(self):
        crossing = WatchedCrossing(K, bound=0)
        crossing.come_all(1, 0, 0)
        self.assert_same((list(crossing.foresee()), crossing.upcoming), ([1, 2, 0], 1))
        check_crossing(self, crossing, K, (), [("come", 1), ("come", 0), ("come", 0)], bound=0, kind=WatchedCrossing)

    def test_a_fair_rule_with_its_own_bound(self):
        rule = turns_rule(6)
        crossing = WatchedCrossing(rule, bound=5)
        crossing.come_all(*[0, 1, 2, 3, 4, 5] * 6)
        while len(crossing) < 60:
            crossing.go()
        self.assert_same(crossing.overs, (5,) * 6)

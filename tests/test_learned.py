"""[37]: what some days tell, as an object."""

from itertools import product

from lanerules.errors import BadDay, BadRow, NoCount, NoHistory, NoIndex, OtherLanes
from lanerules.learning import Learned, foretold
from lanerules.rules import Rule, row_error, turns_rule
from tests.listing import Draws
from tests.samples import Z, ErrorCase, any_values
from tests.test_learning import WRONG_PAIRS
from tests.test_watched_days import NO_LANES
from tests.watched import D, E, F, all_days, cases, every_pair, has, rules_for


class TestCreation(ErrorCase):
    def test_errors(self):
        for lanes in NO_LANES:
            error = self.assert_error(NoCount(lanes), Learned, lanes)
            self.assertIs(error.value, lanes)
            self.assert_error(NoCount(lanes), Learned, lanes, None)
        self.assert_error(BadDay(0), Learned, 1, E)
        self.assert_error(BadDay(1), Learned, 2, E, None, None)
        for value in any_values():
            self.assert_error(BadDay(2), Learned, 2, E, F, value)

    def test_properties(self):
        for lanes, days in cases():
            learned = Learned(lanes, *days)
            self.assert_same((learned.lanes, learned.days, learned.rules_left),
                             (lanes, tuple(days), len(rules_for(lanes, days))))

    def test_properties_can_only_be_read(self):
        learned = Learned(2, E)
        for name in ("lanes", "days", "rules_left"):
            with self.assertRaises(AttributeError):
                setattr(learned, name, 1)
            with self.assertRaises(AttributeError):
                delattr(learned, name)
        self.assert_same((learned.lanes, learned.days, learned.rules_left), (2, (E,), 4))

    def test_smallest_and_largest(self):
        self.assert_same((Learned(1).lanes, Learned(1).days, Learned(1).rules_left), (1, (), 1))
        self.assert_same((Learned(6).lanes, Learned(6).days, Learned(6).rules_left), (6, (), 720 ** 7))


class TestCall(ErrorCase):
    def test_as_foretold(self):
        draws = Draws(41)
        for lanes, days in cases()[::2]:
            learned = Learned(lanes, *days)
            for cars in (1, 2, 3, 4, 5):
                row, word = draws.row(lanes, cars), draws.word(cars)
                self.assert_same(learned(row, word), foretold(row, word, lanes, *days))

    def test_forty_cars_of_six_lanes(self):
        draws = Draws(42)
        rule = draws.rule(6)
        days = [draws.day(rule, 40) for _ in range(4)]
        learned = Learned(6, *days)
        for row, word, order in days:
            self.assert_same(learned(row, word), order)

    def test_no_rule(self):
        self.assert_same(Learned(2, E, F)((0,), "ap"), None)

    def test_errors(self):
        for days in ((), (E,), (E, F)):
            learned = Learned(2, *days)
            for row in [(), [0, 1], (0, 2), (0, True), None, (0,) * 41, *any_values()]:
                self.assert_error(BadRow(row_error(turns_rule(2), row)), learned, row, None)
            for word in ["", "aap", "appa", None, 0, ("a",), *any_values()]:
                self.assert_error(NoHistory(), learned, (0, 1), word)


class TestIndex(ErrorCase):
    def test_against_the_listing(self):
        seen = set()
        for lanes, days in cases():
            kept, learned = rules_for(lanes, days), Learned(lanes, *days)
            for index in range(lanes + 1):
                found = {rule[index] for rule in kept}
                expected = found.pop() if len(found) == 1 else None
                seen.add(expected)
                self.assert_same(learned[index], expected)
        self.assertTrue({None, (0, 1), (1, 0), (0,)} <= seen)
        self.assertTrue([preference for preference in seen if preference and len(preference) == 3])

    def test_no_rule_settles_nothing(self):
        # Also where all that is told of a preference is one and the same.
        self.assert_same([Learned(2, D, E, F)[index] for index in range(3)], [None] * 3)
        self.assert_same(Learned(2, D)[1], (1, 0))

    def test_six_lanes(self):
        days = [((lane, lane + 1), "aapp", (0, 1)) for lane in range(5)]
        self.assert_same(Learned(6, *days)[0], (0, 1, 2, 3, 4, 5))
        self.assert_same(Learned(6, *days)[6], None)
        self.assert_same(Learned(6, *days[1:])[0], None)
        self.assert_same(Learned(1)[0], (0,))
        self.assert_same(Learned(1)[1], (0,))

    def test_errors(self):
        learned = Learned(2, E)
        for value in [-1, 3, 4, True, False, None, "0", (0,), [0], 10 ** 39, Rule(Z), *any_values()]:
            error = self.assert_error(NoIndex(value), learned.__getitem__, value)
            self.assertIs(error.index, value)
        with self.assertRaises(NoIndex):
            learned[3]
        with self.assertRaises(NoIndex):
            Learned(1)[2]
        with self.assertRaises(NoIndex):
            Learned(2, E, F)[-1]
        self.assertEqual(learned[0], (0, 1))


class TestIn(ErrorCase):
    def test_against_the_listing(self):
        for lanes, days in cases():
            kept, learned = rules_for(lanes, days), Learned(lanes, *days)
            for pair in every_pair(lanes):
                self.assertIs(pair in learned, all(has(rule, pair) for rule in kept))

    def test_wrong_values(self):
        for value in WRONG_PAIRS + any_values():
            for days in ((), (E,), (D, E), (E, F)):
                self.assertIs(value in Learned(2, *days), False)
        self.assertIs((0, 0, 1) in Learned(1), False)
        self.assertIs((2, 0, 1) in Learned(2, E, F), True)


class TestAdd(ErrorCase):
    def test_the_days_of_both(self):
        for (lanes, one), (others, other) in product(cases()[::5], cases()[::6]):
            first, second = Learned(lanes, *one), Learned(others, *other)
            if lanes == others:
                both = first + second
                self.assertIsInstance(both, Learned)
                self.assert_same((both.lanes, both.days), (lanes, tuple(one) + tuple(other)))
                self.assertEqual(both.rules_left, len(rules_for(lanes, (*one, *other))))
            else:
                self.assert_error(OtherLanes(others), lambda: first + second)
            self.assert_same((first.days, second.days), (tuple(one), tuple(other)))

    def test_a_new_object(self):
        one = Learned(2, E)
        self.assertIsNot(one + Learned(2), one)
        self.assertEqual((one + one).days, (E, E))
        self.assertEqual((Learned(2, D) + Learned(2, E)).days, (D, E))
        self.assertEqual((Learned(2, E) + Learned(2, D)).days, (E, D))
        self.assert_error(OtherLanes(6), lambda: Learned(1) + Learned(6))
        self.assert_error(OtherLanes(1), lambda: Learned(6) + Learned(1))


class TestCompare(ErrorCase):
    def test_against_the_listing(self):
        chosen = [(lanes, days, set(rules_for(lanes, days))) for lanes, days in cases()[::2]]
        seen = set()
        for (lanes, one, kept), (others, other, left) in product(chosen, chosen):
            first, second = Learned(lanes, *one), Learned(others, *other)
            implied, equal = lanes == others and kept <= left, lanes == others and kept == left
            seen.add((implied, equal))
            self.assertIs(first.implies(second), implied)
            self.assertIs(first == second, equal)
            self.assertIs(first != second, not equal)
        self.assertEqual(seen, {(True, True), (True, False), (False, False)})

    def test_other_numbers_of_lanes(self):
        self.assertIs(Learned(1) == Learned(2), False)
        self.assertIs(Learned(1).implies(Learned(2)), False)
        self.assertIs(Learned(2, E, F).implies(Learned(3)), False)
        self.assertIs(Learned(2, E, F) == Learned(3, E, F), False)

    def test_no_rule_at_all(self):
        self.assertIs(Learned(2, E, F) == Learned(2, F, D, E), True)
        self.assertIs(Learned(2, E, F).implies(Learned(2, D)), True)
        self.assertIs(Learned(2, D).implies(Learned(2, E, F)), False)

    def test_by_what_follows_and_not_by_what_is_told(self):
        chain = [((0, 1), "aapp", (0, 1)), ((1, 2), "aapp", (0, 1))]
        far = ((0, 2), "aapp", (0, 1))
        self.assertIs(Learned(3, *chain) == Learned(3, *chain, far), True)
        self.assertIs(Learned(3, *chain).implies(Learned(3, far)), True)
        self.assertIs(Learned(3, far).implies(Learned(3, *chain)), False)

    def test_other_values(self):
        learned = Learned(2, E)
        for value in [*any_values(), None, 0, 2, E, (E,), str(learned), [learned], (2, E), Rule(Z)]:
            self.assertIs(learned == value, False)
            self.assertIs(value == learned, False)
            self.assertIs(learned != value, True)


class TestShown(ErrorCase):
    def test_len_bool_and_str(self):
        for lanes, days in cases():
            learned, many = Learned(lanes, *days), len(rules_for(lanes, days))
            self.assert_same(len(learned), len(days))
            self.assertIs(bool(learned), many > 0)
            self.assert_same(str(learned), f"{lanes} lanes, {len(days)} days, {many} rules")

    def test_none_and_one(self):
        self.assert_same(str(Learned(1)), "1 lanes, 0 days, 1 rules")
        self.assert_same(str(Learned(2, E, F)), "2 lanes, 2 days, 0 rules")
        self.assert_same(str(Learned(6)), "6 lanes, 0 days, 100306130042880000000 rules")
        self.assertIs(bool(Learned(1)), True)
        self.assertIs(bool(Learned(2, E, F)), False)
        self.assertEqual(len(Learned(2, *[E] * 100)), 100)

    def test_a_loop_raises_type_error(self):
        learned = Learned(2, E)
        with self.assertRaises(TypeError):
            for _ in learned:
                self.fail("it was iterated over")
        for call in (iter, list, tuple, sorted):
            with self.assertRaises(TypeError):
                call(learned)

    def test_days_that_no_rule_explains_are_days(self):
        for day in all_days(2, 3)[::9]:
            self.assert_same(Learned(2, day).days, (day,))

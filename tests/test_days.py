"""[5], [11] and [12]: days that are played, at once or step by step."""

from inspect import isgenerator
from itertools import product

from lanerules.errors import BadWord, NoHistory
from lanerules.rules import each_step, is_history, order_of, polite_rule, run, turns_rule, word_error
from tests.samples import K, ONE, R, Z, ErrorCase, all_rules, all_words, any_values, play

WRONG_WORDS = ["p", "app", "aaa", "x", "aapax", "aapp ", None, True, 0, ("a",), ["a"], {"a": 1}]


def outcome(rule, row, word):
    steps = play(rule, row, word)
    passed = tuple([car for letter, car, after in steps if letter == "p"])
    return (passed, steps[-1][2] if steps else ())


class TestRun(ErrorCase):
    def test_all_small_days_of_two_lanes(self):
        for rule in all_rules(2):
            for cars in (1, 2, 3):
                for row, word in product(product((0, 1), repeat=cars), all_words(cars)):
                    self.assert_same(run(rule, row, word), outcome(rule, row, word))

    def test_days_of_three_lanes(self):
        rules = list(all_rules(3))[::37]
        for rule, row in product(rules, [(2, 1, 0, 2), (0, 1, 2, 0), (1, 1, 2, 0)]):
            for word in all_words(4)[::5]:
                self.assert_same(run(rule, row, word), outcome(rule, row, word))

    def test_forty_cars_of_six_lanes(self):
        row = tuple([(k * k + k // 3) % 6 for k in range(40)])
        for rule in (turns_rule(6), polite_rule(3, 1, 5, 0, 2, 4)):
            for word in ("a" * 40 + "p" * 40, "ap" * 40, "aap" * 20 + "p" * 20, "aaap" * 13):
                self.assert_same(run(rule, row, word), outcome(rule, row, word))

    def test_the_rule_at_the_start_counts_only_at_the_start(self):
        rule = ((1, 0), (0, 1), (0, 1))
        self.assertEqual(order_of(rule, (0, 1, 0, 1), "aaaapppp"), (1, 0, 2, 3))
        self.assertEqual(order_of(rule, (0, 0, 1, 1), "apaaappp"), (0, 1, 2, 3))

    def test_the_last_lane_counts_also_after_nobody_waited(self):
        self.assertEqual(order_of(Z, (0, 0, 1), "apaapp"), (0, 2, 1))
        self.assertEqual(order_of(Z, (1, 0, 1), "apaapp"), (0, 1, 2))

    def test_the_empty_word(self):
        self.assertEqual(run(Z, R, ""), ((), ()))

    def test_arrivals_only(self):
        self.assertEqual(run(Z, R, "aaa"), ((), (0, 1, 2)))

    def test_bad_words(self):
        for word in [*WRONG_WORDS, *any_values()]:
            error = word_error((0, 1), word)
            self.assert_error(BadWord(error), run, Z, (0, 1), word)
        self.assert_error(BadWord((2, "arrival")), run, Z, (0, 1), "aaapppppp")
        self.assert_error(BadWord((None, "string")), run, Z, (0, 1), True)


class TestOrderOf(ErrorCase):
    def test_all_small_histories(self):
        for rule in all_rules(2):
            for row, word in product(product((0, 1), repeat=3), all_words(3)):
                if is_history(row, word):
                    self.assert_same(order_of(rule, row, word), outcome(rule, row, word)[0])

    def test_cars_of_one_lane_keep_their_order(self):
        for word in all_words(4):
            if is_history((0,) * 4, word):
                self.assertEqual(order_of(ONE, (0,) * 4, word), (0, 1, 2, 3))

    def test_no_history(self):
        for word in [*WRONG_WORDS, *any_values(), "", "a", "aa", "aap", "ap", "aapppp"]:
            self.assert_error(NoHistory(), order_of, Z, (0, 1), word)


class TestEachStep(ErrorCase):
    def test_all_small_days_of_two_lanes(self):
        for rule in all_rules(2):
            for row, word in product(product((0, 1), repeat=3), all_words(3)):
                self.assert_same(list(each_step(rule, row, word)), play(rule, row, word))

    def test_it_is_a_generator(self):
        self.assertTrue(isgenerator(each_step(Z, R, "aap")))
        self.assertEqual(list(each_step(Z, R, "")), [])

    def test_a_walk_that_is_left_early(self):
        seen = []
        for step in each_step(Z, R, "aaappp"):
            seen.append(step)
            if step[0] == "p":
                break
        self.assertEqual(seen, play(Z, R, "aaap"))

    def test_a_walk_that_is_begun_anew(self):
        walk = each_step(Z, R, "aapap")
        self.assertEqual([next(walk), next(walk)], play(Z, R, "aa"))
        walk.close()
        self.assertEqual(list(walk), [])
        self.assertEqual(list(each_step(Z, R, "aapap")), play(Z, R, "aapap"))

    def test_two_walks_at_once(self):
        both = list(zip(each_step(Z, R, "aaapp"), each_step(K, R, "aaapp")))
        self.assertEqual(both, list(zip(play(Z, R, "aaapp"), play(K, R, "aaapp"))))
        one, other = each_step(Z, R, "aaapp"), each_step(Z, R, "aaapp")
        self.assertEqual([next(one), next(one), next(other)], play(Z, R, "aa") + play(Z, R, "a"))
        self.assertEqual(list(one), play(Z, R, "aaapp")[2:])
        self.assertEqual(list(other), play(Z, R, "aaapp")[1:])

    def test_bad_words(self):
        for word in [*WRONG_WORDS, *any_values()]:
            error = BadWord(word_error((0, 1), word))
            self.assert_error(error, lambda: next(each_step(Z, (0, 1), word)))
            self.assert_error(error, lambda: list(each_step(Z, (0, 1), word)))

    def test_nothing_is_yielded_before_the_error(self):
        seen = []
        with self.assertRaises(BadWord):
            for step in each_step(Z, (0, 1), "aapx"):
                seen.append(step)
        self.assertEqual(seen, [])

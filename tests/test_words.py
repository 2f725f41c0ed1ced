"""[5] and [10]: words and histories of a row."""

from itertools import product

from lanerules.rules import is_history, word_error
from tests.samples import R, ErrorCase, all_words, any_values, is_word


class TestWordError(ErrorCase):
    def check(self, row, value, error):
        self.assert_same(word_error(row, value), error)

    def test_all_short_words(self):
        for cars in (1, 2, 3, 4):
            words = set(all_words(cars))
            for length in range(9):
                for letters in product("ap", repeat=length):
                    word = "".join(letters)
                    self.assertEqual(word_error((0,) * cars, word) is None, word in words)
                    self.assertEqual(is_word(cars, word), word in words)

    def test_where_a_word_goes_wrong(self):
        for cars in (1, 2, 3):
            for length in range(8):
                for letters in product("ap", repeat=length):
                    word = "".join(letters)
                    wrong = [k for k in range(length) if not is_word(cars, word[:k + 1])]
                    expected = None
                    if wrong:
                        names = {"a": "arrival", "p": "passing"}
                        expected = (wrong[0], names[word[wrong[0]]])
                    self.check((0,) * cars, word, expected)

    def test_the_empty_word(self):
        self.check((0,), "", None)
        self.check(R, "", None)

    def test_one_arrival_too_many(self):
        self.check((0,), "aa", (1, "arrival"))
        self.check((0, 1), "apapa", (4, "arrival"))
        self.check((0,) * 40, "a" * 40, None)
        self.check((0,) * 40, "a" * 41, (40, "arrival"))
        self.check((0,) * 40, "ap" * 40 + "a", (80, "arrival"))

    def test_a_passing_while_nobody_waits(self):
        self.check((0,), "p", (0, "passing"))
        self.check((0,), "app", (2, "passing"))
        self.check((0,) * 40, "ap" * 40 + "p", (80, "passing"))
        self.check((0, 1), "appa", (2, "passing"))

    def test_the_first_of_both(self):
        self.check((0,), "aapp", (1, "arrival"))
        self.check((0,), "appaa", (2, "passing"))

    def test_a_wrong_letter_comes_before_all_else(self):
        self.check((0,), "ppppx", (4, "letter"))
        self.check((0,), "aaax", (3, "letter"))
        self.check((0,), "xay", (0, "letter"))
        for letter in ("A", "P", "b", " ", "\n", "0", "-"):
            self.check((0, 1), "ap" + letter, (2, "letter"))
            self.check((0, 1), letter, (0, "letter"))

    def test_no_strings(self):
        for value in [*any_values(), None, 0, ("a",), ["a", "p"]]:
            if not isinstance(value, str):
                self.check((0, 1), value, (None, "string"))
                self.assertIs(is_history((0, 1), value), False)

    def test_any_strings(self):
        for value in any_values():
            if isinstance(value, str):
                self.assertEqual(word_error((0, 1), value)[1], "letter")
                self.assertIs(is_history((0, 1), value), False)


class TestIsHistory(ErrorCase):
    def test_all_short_words(self):
        for cars in (1, 2, 3, 4):
            for length in range(10):
                for letters in product("ap", repeat=length):
                    word = "".join(letters)
                    full = word.count("a") == word.count("p") == cars
                    self.assertIs(is_history((0,) * cars, word), full and is_word(cars, word))

    def test_edges(self):
        self.assertIs(is_history((0,), ""), False)
        self.assertIs(is_history((0,), "ap"), True)
        self.assertIs(is_history((0,), "pa"), False)
        self.assertIs(is_history((0,), "apap"), False)
        self.assertIs(is_history((0, 1), "ap"), False)
        self.assertIs(is_history((0, 1), "aaap"), False)
        self.assertIs(is_history((0, 1), "axpp"), False)
        self.assertIs(is_history((0,) * 40, "a" * 40 + "p" * 40), True)
        self.assertIs(is_history((0,) * 40, "a" * 40 + "p" * 39), False)

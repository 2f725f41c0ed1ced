"""[71] to [73]: the texts of rules and numbers, and what is refused near to a right one."""

from itertools import product

from lanerules.errors import BadText
from lanerules.rules import is_rule, ranks_rule, turns_rule
from lanerules.texts import numbers_text, parse_numbers, parse_rule, rule_text
from tests.listing import Draws
from tests.samples import ONE, Z, ErrorCase, all_rules, any_values

NO_STRINGS = [None, 0, 3, (), ("0", "0"), ["0 0"], Z, *[value for value in any_values() if not isinstance(value, str)]]


def listed_rules():
    """The texts of all rules of up to three lanes."""
    return {" ".join("".join(str(lane) for lane in preference) for preference in rule): rule
            for size in (1, 2, 3) for rule in all_rules(size)}


def rule_text_error(text):
    """Where the text is not that of a rule, word by word as the document says; None if it is one."""
    words = text.split(" ")
    if not 2 <= len(words) <= 7:
        return 0
    lanes = [str(lane) for lane in range(len(words) - 1)]
    wrong = [index for index, word in enumerate(words) if sorted(word) != lanes]
    return wrong[0] if wrong else None


def numbers_error(text, limit):
    """The same for numbers below the limit."""
    if text == "none":
        return None
    right = [str(number) for number in range(limit)]
    wrong = [index for index, word in enumerate(text.split(" ")) if word not in right or index == 40]
    return wrong[0] if wrong else None


def near(text):
    """Texts that differ from this one in one place."""
    letters = "0123459 x-+._\nnone"
    found = [text[:at] + text[at + 1:] for at in range(len(text))]
    found += [text[:at] + letter + text[at:] for at in range(len(text) + 1) for letter in letters]
    found += [text[:at] + letter + text[at + 1:] for at in range(len(text)) for letter in letters]
    return [other for other in found if other != text] + [text + text, text.replace(" ", "  "), text.replace(" ", ",")]


class TestRules(ErrorCase):
    def test_all_rules_of_up_to_three_lanes(self):
        for text, rule in listed_rules().items():
            self.assertEqual(rule_text(rule), text)
            self.assert_same(parse_rule(text), rule)

    def test_one_and_six_lanes(self):
        self.assert_same((rule_text(ONE), parse_rule("0 0")), ("0 0", ONE))
        draws = Draws(72)
        self.assertEqual(rule_text(turns_rule(6)), "012345 123450 234501 345012 450123 501234 012345")
        for rule in (ranks_rule(5, 4, 3, 2, 1, 0), turns_rule(6), *[draws.rule(6) for _ in range(20)]):
            self.assert_same(parse_rule(rule_text(rule)), rule)

    def test_no_string(self):
        for value in NO_STRINGS:
            self.assert_error(BadText(None), parse_rule, value)

    def test_the_number_of_words(self):
        seven = rule_text(turns_rule(6))
        for text in ("", "0", "01", "none", "x", seven + " 012345", seven + " ", " " * 7, "0 " * 8, "x" * 3000, " " * 3000):
            self.assert_error(BadText(0), parse_rule, text)
        # Seven lanes, and so on: each word would be a preference.
        for size in (7, 8, 9, 10):
            text = " ".join(["0123456789"[:size]] * (size + 1))
            self.assert_error(BadText(0), parse_rule, text)
            self.assert_error(BadText(0), parse_rule, text[:-1])

    def test_the_first_wrong_word(self):
        for text, index in ((" ", 0), ("0 ", 1), (" 0", 0), ("0  0", 0), ("01 10", 0), ("0 00", 1), ("01 10 00", 2),
                            ("01 1x 00", 1), ("01 10 011", 2), ("0 1", 1), ("0 -0", 1), ("0 0\n", 1), ("01\n10 01", 0),
                            ("012 120 201", 0), ("01 12 01", 1), ("0 " + "0" * 2998, 1), ("10 01 02 20", 0)):
            self.assert_error(BadText(index), parse_rule, text)

    def test_near_to_right_texts(self):
        known = listed_rules()
        texts = ["0 0", "01 10 01", "10 10 10", "012 120 201 012", rule_text(turns_rule(6)), *list(known)[::97]]
        for other in [other for text in texts for other in near(text)]:
            index = rule_text_error(other)
            if index is None:
                self.assertTrue(is_rule(parse_rule(other)))
                self.assertEqual(rule_text(parse_rule(other)), other)
            else:
                self.assert_error(BadText(index), parse_rule, other)

    def test_all_short_texts(self):
        for size in range(6):
            for letters in product("01 x", repeat=size):
                text = "".join(letters)
                index = rule_text_error(text)
                if index is None:
                    self.assertEqual(rule_text(parse_rule(text)), text)
                else:
                    self.assert_error(BadText(index), parse_rule, text)


class TestNumbers(ErrorCase):
    def test_there_and_back(self):
        draws = Draws(73)
        for limit in (1, 2, 9, 10, 11, 39, 40):
            for many in (0, 1, 2, 39, 40):
                numbers = tuple(draws.below(limit) for _ in range(many))
                self.assert_same(parse_numbers(numbers_text(numbers), limit), numbers)

    def test_texts(self):
        self.assertEqual(numbers_text(()), "none")
        self.assertEqual(numbers_text((0,)), "0")
        self.assertEqual(numbers_text((10, 0, 39, 7)), "10 0 39 7")
        self.assertEqual(numbers_text(tuple(range(40))), " ".join(str(k) for k in range(40)))
        self.assertEqual(numbers_text((12345678901234567890, 0)), "12345678901234567890 0")

    def test_no_string(self):
        for value in NO_STRINGS:
            for limit in (1, 40):
                self.assert_error(BadText(None), parse_numbers, value, limit)

    def test_limits(self):
        for limit in range(1, 41):
            self.assert_same(parse_numbers(str(limit - 1), limit), (limit - 1,))
            self.assert_error(BadText(0), parse_numbers, str(limit), limit)
            self.assert_error(BadText(1), parse_numbers, f"0 {limit} x", limit)
            self.assert_same(parse_numbers("none", limit), ())

    def test_forty_words_and_more(self):
        self.assert_same(parse_numbers(" ".join(["0"] * 40), 1), (0,) * 40)
        for many in (41, 42, 1000):
            self.assert_error(BadText(40), parse_numbers, " ".join(["0"] * many), 1)
        self.assert_error(BadText(40), parse_numbers, " ".join(["0"] * 40) + " x", 1)
        self.assert_error(BadText(40), parse_numbers, " ".join(["0"] * 40) + " ", 1)
        self.assert_error(BadText(39), parse_numbers, " ".join(["0"] * 39) + " x 0", 1)

    def test_wrong_words(self):
        for text, index in (("", 0), (" ", 0), ("0 ", 1), (" 0", 0), ("0  0", 1), ("00", 0), ("0 02", 1), ("+1", 0),
                            ("-0", 0), ("1_0", 0), ("None", 0), ("none ", 0), (" none", 0), ("none none", 0), ("0 none", 1),
                            ("none 0", 0), ("0\n", 0), ("0\n1", 0), ("0,1", 0), ("1.0", 0), ("0x1", 0), ("9" * 3000, 0),
                            ("0 " + "0" * 2900, 1), ("2 " + "1" * 40, 1), ("\n", 0), ("no", 0), ("nonee", 0)):
            self.assert_error(BadText(index), parse_numbers, text, 40)

    def test_near_to_right_texts(self):
        for text, limit in (("none", 3), ("0", 1), ("2 2 0", 3), ("0 9 10", 11), ("39 0 12", 40)):
            for other in near(text):
                index = numbers_error(other, limit)
                if index is None:
                    self.assertEqual(numbers_text(parse_numbers(other, limit)), other)
                else:
                    self.assert_error(BadText(index), parse_numbers, other, limit)

    def test_other_digits_are_none(self):
        for text in ("\u0661", "\u00b2", "\uff11", "1\u0661"):
            self.assert_error(BadText(0), parse_numbers, text, 40)
            self.assert_error(BadText(1), parse_rule, "0 " + text)

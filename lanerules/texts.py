"""Texts of rules, and of tuples of numbers such as rows and orders."""

from lanerules.bounds import MAX_CARS, MAX_LANES
from lanerules.errors import BadText
from lanerules.kinds import is_arrangement

DIGITS = "0123456789"


def is_digits(text):
    """Whether the text consists of one or more digits."""
    return len(text) > 0 and all([letter in DIGITS for letter in text])


def is_number_text(text, most):
    """Whether this is the text of an integer with at most so many digits."""
    if len(text) > most or not is_digits(text):
        return False
    return text == "0" or text[0] != "0"


def preference_text(preference):
    """The text of a preference."""
    return "".join([str(lane) for lane in preference])


def rule_text(rule):
    """The text of a rule."""
    return " ".join([preference_text(preference) for preference in rule])


def preference_in(word):
    """The tuple of the digits of the word, None if it has other characters."""
    return tuple([int(digit) for digit in word]) if is_digits(word) else None


def words_in(value):
    """The words of a text."""
    if not isinstance(value, str):
        raise BadText(None)
    return value.split(" ")


def parse_rule(value):
    """The rule whose text value is."""
    words = words_in(value)
    if not 2 <= len(words) <= MAX_LANES + 1:
        raise BadText(0)
    found = []
    for index, word in enumerate(words):
        preference = preference_in(word)
        if not is_arrangement(preference, len(words) - 1):
            raise BadText(index)
        found.append(preference)
    return tuple(found)


def numbers_text(numbers):
    """The text of a tuple of integers from 0 on."""
    return " ".join([str(number) for number in numbers]) if len(numbers) > 0 else "none"


def parse_numbers(value, limit):
    """The tuple of integers below limit whose text value is."""
    words = words_in(value)
    if value == "none":
        return ()
    found = []
    for index, word in enumerate(words):
        # No number below the limit has more digits than the limit itself.
        if index == MAX_CARS or not is_number_text(word, len(str(limit))) or int(word) >= limit:
            raise BadText(index)
        found.append(int(word))
    return tuple(found)

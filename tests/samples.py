"""Values that several tests use, and a second, independent way to play a day."""

from itertools import permutations, product
from unittest import TestCase

from lanerules.errors import PassError

Z = ((0, 1), (1, 0), (0, 1))
K = ((0, 1), (0, 1), (0, 1))
R = (0, 0, 1, 0, 1)
ONE = ((0,), (0,))


def nested(levels, make):
    value = 0
    for _ in range(levels):
        value = make(value)
    return value


def any_values():
    """Fresh values of all kinds, none of which is a rule, a row, a lane, a preference or a word."""
    return [
        True, False, -1, -7, 6, 7, 41, 10 ** 39, -(10 ** 39),
        "x", "0", "01", "aax", "None", "line\nfeed", "x" * 3000,
        (), (True,), (False,), (None,), ("a",), (-1,), (7,), ([],), ({},), ((),), (((),),),
        ("a", "p"), (None, "rule"), (True, False), tuple(range(7)), ((0, 1), (1, 1), (0, 1)),
        [], [0], [0, 1], [None], [[0], [0]], [(0, 1), (1, 0), (0, 1)], [R],
        {}, {"a": 1}, {"0": (0,), "1": [0]}, {"rule": Z},
        nested(20, lambda value: (value,)),
        nested(20, lambda value: [value]),
        nested(20, lambda value: {"k": value}),
        [0] * 2000,
    ]


def all_rules(lanes):
    return product(permutations(range(lanes)), repeat=lanes + 1)


def all_words(cars):
    """All words with at most so many arrivals."""
    found = [""]
    for word in found:
        if word.count("a") < cars:
            found.append(word + "a")
        if word.count("p") < word.count("a"):
            found.append(word + "p")
    return found


def is_word(cars, value):
    """By the definition: each beginning has enough cars and enough waiting ones."""
    if not isinstance(value, str) or set(value) - set("ap"):
        return False
    beginnings = [value[:k] for k in range(len(value) + 1)]
    return value.count("a") <= cars and all(b.count("p") <= b.count("a") for b in beginnings)


def play(rule, row, word):
    """The steps of a word, played with one queue for each lane."""
    queues = [[] for _ in rule[0]]
    preference = rule[0]
    came = 0
    steps = []
    for letter in word:
        if letter == "a":
            car = came
            queues[row[car]].append(car)
            came += 1
        else:
            lane = next(lane for lane in preference if queues[lane])
            car = queues[lane].pop(0)
            preference = rule[1 + lane]
        steps.append((letter, car, tuple(sorted(sum(queues, [])))))
    return steps


class ErrorCase(TestCase):
    """Tests that look at the errors of the package, and tell 1 from True."""

    def assert_same(self, one, other):
        self.assertEqual(repr(one), repr(other))

    def assert_error(self, error, call, *args):
        """The call raises an error of the same class that keeps the same attributes."""
        with self.assertRaises(PassError) as raised:
            call(*args)
        self.assertEqual(raised.exception.__class__, error.__class__)
        self.assert_same(vars(raised.exception), vars(error))
        return raised.exception

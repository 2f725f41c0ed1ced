"""Plain listings of everything that a definition speaks of, made without the modules under test."""

from functools import lru_cache
from itertools import permutations, product

from tests.samples import all_rules, all_words, play


@lru_cache(maxsize=None)
def all_histories(cars):
    """All histories of so many cars."""
    return tuple(word for word in all_words(cars) if word.count("a") == word.count("p") == cars)


def passing_order(rule, row, word):
    return tuple(car for letter, car, after in play(rule, row, word) if letter == "p")


def counts_by_letters(word):
    """The number of passings before each arrival."""
    return tuple(word[:at].count("p") for at, letter in enumerate(word) if letter == "a")


def by_order(rule, row):
    """All histories of the row, by their orders, each list in ascending order of the counts."""
    found = {}
    for word in sorted(all_histories(len(row)), key=counts_by_letters):
        found.setdefault(passing_order(rule, row, word), []).append(word)
    return found


def all_orders(cars):
    return list(permutations(range(cars)))


def rows(lanes, cars):
    return list(product(range(lanes), repeat=cars))


def small_cases():
    """Rules and rows of one, two and three lanes, small enough for listing all histories."""
    found = [(((0,), (0,)), (0,) * cars) for cars in (1, 2, 3, 4)]
    for cars in (1, 2, 3, 4):
        found.extend(product(all_rules(2), rows(2, cars)))
    found.extend(product(list(all_rules(3))[::251], rows(3, 4)[::3]))
    found.extend(product(list(all_rules(2))[1::3], rows(2, 5)[3::7]))
    return found


class Draws:
    """Numbers that look like random ones, the same in each run."""

    def __init__(self, seed):
        self.state = seed

    def below(self, limit):
        self.state = (self.state * 6364136223846793005 + 1442695040888963407) % 2 ** 64
        return (self.state >> 33) % limit

    def shuffled(self, items):
        rest = list(items)
        return tuple(rest.pop(self.below(len(rest))) for _ in range(len(rest)))

    def rule(self, lanes):
        return tuple(self.shuffled(range(lanes)) for _ in range(lanes + 1))

    def row(self, lanes, cars):
        return tuple(self.below(lanes) for _ in range(cars))

    def word(self, cars):
        """A history of so many cars."""
        word = ""
        while len(word) < 2 * cars:
            came = word.count("a")
            passed = len(word) - came
            can_come, can_pass = came < cars, passed < came
            comes = can_come and (not can_pass or self.below(2) == 0)
            word += "a" if comes else "p"
        return word

    def day(self, rule, cars):
        """A day by this rule."""
        row, word = self.row(len(rule) - 1, cars), self.word(cars)
        return (row, word, passing_order(rule, row, word))

"""Days for the tests of learning, and a plain listing of the rules that explain them."""

from functools import lru_cache
from itertools import permutations

from tests.listing import Draws, all_histories, all_orders, counts_by_letters, passing_order, rows
from tests.samples import all_rules

D = ((0, 0, 1, 0, 1), "aaaaappppp", (0, 2, 1, 4, 3))
E = ((0, 1), "aapp", (0, 1))
F = ((0, 1), "aapp", (1, 0))


def is_plain_day(row, word, order):
    """Word for word: each car passes after it has come, and no car overtakes in its own lane."""
    come_in_time = all(counts_by_letters(word)[car] <= place for place, car in enumerate(order))
    lanes = [[car for car in order if row[car] == lane] for lane in row]
    return come_in_time and all(cars == sorted(cars) for cars in lanes)


@lru_cache(maxsize=None)
def all_days(lanes, cars):
    """All days of so many lanes and cars, also those that no rule explains."""
    return tuple((row, word, order) for row in rows(lanes, cars) for word in all_histories(cars)
                 for order in all_orders(cars) if is_plain_day(row, word, order))


@lru_cache(maxsize=None)
def explaining(lanes, day):
    """The numbers of the rules, in ascending order, that explain the day."""
    row, word, order = day
    return frozenset(number for number, rule in enumerate(listed_rules(lanes))
                     if passing_order(rule, row, word) == order)


@lru_cache(maxsize=None)
def listed_rules(lanes):
    return tuple(sorted(all_rules(lanes)))


def rules_for(lanes, days):
    """All rules that explain all of the days, in ascending order."""
    kept = [number for number in range(len(listed_rules(lanes)))
            if all(number in explaining(lanes, day) for day in days)]
    return [listed_rules(lanes)[number] for number in kept]


def has(rule, pair):
    index, one, other = pair
    return rule[index].index(one) < rule[index].index(other)


def every_pair(lanes):
    return [(index, one, other) for index in range(lanes + 1) for one, other in permutations(range(lanes), 2)]


@lru_cache(maxsize=None)
def cases():
    """Numbers of lanes with some days: none, one, several, explained by many rules, one or none."""
    draws = Draws(21)
    found = [(1, ()), (2, ()), (3, ()), (1, (((0,), "ap", (0,)),)), (2, (D, E)), (2, (E, F)), (2, (D, E, F)),
             (2, (E, E)), (1, all_days(1, 3)), (2, (D,)), (2, (F, D, E))]
    for lanes, cars, many in ((2, 2, 9), (2, 3, 12), (2, 4, 12), (3, 3, 12), (3, 4, 8)):
        days = all_days(lanes, cars)
        for turn in range(many):
            chosen = tuple(days[draws.below(len(days))] for _ in range(1 + turn % 4))
            found.append((lanes, chosen))
    for turn in range(18):
        lanes = 2 + turn % 2
        rule = draws.rule(lanes)
        found.append((lanes, tuple(draws.day(rule, 3 + draws.below(5)) for _ in range(1 + turn % 4))))
    return tuple(found)

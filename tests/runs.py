"""Plain listings of runs and rings, and a plain count of who is passed over, without the modules under test."""

from itertools import permutations

from tests.listing import Draws
from tests.samples import all_rules


def goes(rule, last, one, other):
    """Whether one goes before other after last."""
    preference = rule[0] if last is None else rule[1 + last]
    return preference.index(one) < preference.index(other)


def lanes(rule):
    return list(range(len(rule) - 1))


def runs(rule, lane, length):
    """All runs of this length for the lane."""
    found = [(last,) for last in [None, *lanes(rule)]]
    for _ in range(length):
        found = [(*run, other) for run in found for other in lanes(rule)
                 if other != lane and goes(rule, run[-1], other, lane)]
    return found


def listed_bound(rule, lane):
    """The greatest length of a run, None if there are still runs with more items than there are lanes."""
    lengths = [length for length in range(len(rule) + 2) if runs(rule, lane, length)]
    return None if lengths[-1] == len(rule) + 1 else lengths[-1]


def is_listed_ring(rule, lane, ring):
    return all(goes(rule, ring[at - 1], item, lane) for at, item in enumerate(ring))


def listed_rings(rule, lane):
    """All rings for the lane, wherever they begin."""
    others = [other for other in lanes(rule) if other != lane]
    return [ring for size in range(1, len(others) + 1) for ring in permutations(others, size)
            if is_listed_ring(rule, lane, ring)]


def some_rules():
    """All rules of one and two lanes, and some of three and four."""
    draws = Draws(50)
    found = [*all_rules(1), *all_rules(2), *list(all_rules(3))[::7]]
    return found + [draws.rule(4) for _ in range(40)]


def mild_rule(draws, size):
    """A rule in which the lane that went last goes last, so that more lanes have bounds."""
    later = [tuple(lane for lane in draws.shuffled(range(size)) if lane != last) + (last,) for last in range(size)]
    return (draws.shuffled(range(size)), *later)


def watched(row, word, passed):
    """For each car that came: how many passed while it waited, and how many while it was the first of its lane.

    The cars that pass are given; all else is counted step by step.
    """
    rest, came, waiting = list(passed), 0, []
    waits, overs = [], []
    for letter in word:
        if letter == "a":
            waiting.append(came)
            waits.append(0)
            overs.append(0)
            came += 1
            continue
        gone = rest.pop(0)
        for car in waiting:
            first = min(other for other in waiting if row[other] == row[car])
            waits[car] += car != gone
            overs[car] += first == car and row[car] != row[gone]
        waiting.remove(gone)
    return tuple(waits), tuple(overs)

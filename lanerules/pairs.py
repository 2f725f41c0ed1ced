"""Pairs of lanes, and the rules that have some of them.

A pair (index, one, other) puts one before other in the preference with this index.
"""

from lanerules.kinds import is_within
from lanerules.preferences import (closed, demands_at, has_lane, preference_at, preference_number, ring_in,
                                   ways_behind)
from lanerules.rules import foremost


def is_pair(lanes, value):
    """Whether value is a pair of so many lanes."""
    if not isinstance(value, tuple) or len(value) != 3:
        return False
    index, one, other = value
    if not is_within(index, 0, lanes):
        return False
    return is_within(one, 0, lanes - 1) and is_within(other, 0, lanes - 1) and one != other


def all_pairs(lanes):
    """The list of all pairs of so many lanes, in ascending order."""
    return [(index, one, other) for index in range(lanes + 1)
            for one in range(lanes) for other in range(lanes) if one != other]


def has_pair(rule, pair):
    """Whether the rule has the pair."""
    index, one, other = pair
    return foremost(rule[index], (one, other)) == one


def has_pairs(rule, pairs):
    """Whether the rule has all of the pairs."""
    return all([has_pair(rule, pair) for pair in pairs])


def choices_of(lanes, pairs):
    """For each index the demands of the pairs on the preference, and the ways to meet them."""
    demands = [demands_at(lanes, index, pairs) for index in range(lanes + 1)]
    return [(before, ways_behind(before)) for before in demands]


def product_of(choices):
    """How many rules there are with one of the preferences of each choice."""
    total = 1
    for demands, ways in choices:
        total = total * ways[0]
    return total


def rule_numbered(choices, number):
    """The rule with this number of those with one of the preferences of each choice."""
    found = []
    left = number
    for demands, ways in choices[::-1]:
        left, rest = divmod(left, ways[0])
        found.append(preference_at(demands, ways, rest))
    return tuple(found[::-1])


def number_of(choices, rule):
    """The number of a rule of those with one of the preferences of each choice."""
    number = 0
    for (demands, ways), preference in zip(choices, rule):
        number = number * ways[0] + preference_number(demands, ways, preference)
    return number


def first_ring(lanes, pairs):
    """A tuple (index, lanes) of lanes that the pairs put into a ring, or None if there is none."""
    for index in range(lanes + 1):
        ring = ring_in(demands_at(lanes, index, pairs))
        if ring is not None:
            return (index, ring)
    return None


def is_ring(index, ring, lanes, pairs):
    """Whether the pairs put the lanes of the ring into a ring in the preference with this index."""
    if not is_within(index, 0, lanes) or not isinstance(ring, tuple) or len(ring) < 2:
        return False
    if not all([is_within(lane, 0, lanes - 1) for lane in ring]) or len(set(ring)) != len(ring):
        return False
    shifted = ring[1:] + ring[:1]
    return all([(index, one, other) in pairs for one, other in zip(ring, shifted)])


def pairs_following(lanes, pairs):
    """The ascending tuple of the pairs that all rules with these pairs have."""
    if first_ring(lanes, pairs) is not None:
        return tuple(all_pairs(lanes))
    sure = [closed(demands_at(lanes, index, pairs)) for index in range(lanes + 1)]
    return tuple([(index, one, other) for index, one, other in all_pairs(lanes)
                  if has_lane(sure[index][other], one)])

"""How long cars wait, read off a word and the cars that passed in it."""

from lanerules.counts import counts_in


def place_or_end(passed, car):
    """The place at which the car passed, or the number of cars that passed if it did not."""
    places = [place for place, other in enumerate(passed) if other == car]
    return places[0] if len(places) > 0 else len(passed)


def waits_in(word, passed):
    """For each car that came, how many cars passed while it waited."""
    return tuple([place_or_end(passed, car) - count for car, count in enumerate(counts_in(word))])


def place_of_first(row, passed, car, count):
    """The first place at which the car can be the first waiting one of its lane."""
    before = [other for other in range(car) if row[other] == row[car]]
    if len(before) == 0:
        return count
    return max(count, place_or_end(passed, before[-1]) + 1)


def overs_in(row, word, passed):
    """For each car that came, how many cars of other lanes passed while it was the first of its lane."""
    found = []
    for car, count in enumerate(counts_in(word)):
        first = place_of_first(row, passed, car, count)
        # While a car is the first one of its lane, nobody else of this lane can pass.
        found.append(max(0, place_or_end(passed, car) - first))
    return tuple(found)


def worst_overs(lanes, row, word, passed):
    """For each of so many lanes the greatest number of these of a car of this lane."""
    overs = overs_in(row, word, passed)
    return tuple([max([over for car, over in enumerate(overs) if row[car] == lane], default=0)
                  for lane in range(lanes)])

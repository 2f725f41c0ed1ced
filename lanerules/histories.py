"""The histories of a row that have a given order: counted, numbered, and what they have in common."""

from lanerules.bounds import MAX_CARS
from lanerules.counts import counts_in, places_in, word_with
from lanerules.errors import BadCount, BadWish, NoCar, NoHistory, NoIndex, OtherOrder, TooLarge
from lanerules.kinds import is_within
from lanerules.orders import bounds_of, check_order, count_limits, has_order, is_car
from lanerules.rising import count_rising, rising_after, rising_at, rising_index, tightened
from lanerules.rules import check_lane, is_history, order_of


def counts_of(row, word):
    """The tuple of the counts of a history of the row."""
    if not is_history(row, word):
        raise NoHistory()
    return counts_in(word)


def word_from(*counts):
    """The history with these counts."""
    if not 1 <= len(counts) <= MAX_CARS:
        raise TooLarge(MAX_CARS)
    lowest = 0
    for index, count in enumerate(counts):
        if not is_within(count, lowest, index):
            raise BadCount(index)
        lowest = count
    return word_with(counts)


def earliest(rule, row, order):
    """The history with this order in which all passings come as early as possible, or None."""
    limits = count_limits(rule, row, order)
    return None if limits is None else word_with(limits[1])


def latest(rule, row, order):
    """The history with this order in which all passings come as late as possible, or None."""
    limits = count_limits(rule, row, order)
    return None if limits is None else word_with(limits[0])


def count_within(limits):
    """How many histories have counts within the limits; None stands for limits that none meets."""
    if limits is None:
        return 0
    least, greatest = limits
    return count_rising(least, greatest)


def count_histories(rule, row, order):
    """The number of histories with this order."""
    return count_within(count_limits(rule, row, order))


def history_at(rule, row, order, index):
    """The history with this order that has this number."""
    limits = count_limits(rule, row, order)
    if not is_within(index, 0, count_within(limits) - 1):
        raise NoIndex(index)
    least, greatest = limits
    return word_with(rising_at(least, greatest, index))


def history_index(rule, row, order, word):
    """The number of a history with this order."""
    check_order(row, order)
    if not has_order(rule, row, order, word):
        raise NoHistory()
    least, greatest = bounds_of(rule, row, order)
    return rising_index(least, greatest, counts_in(word))


def each_history(rule, row, order, *, start=0):
    """Yield the histories with this order by their numbers, from the number start on."""
    limits = count_limits(rule, row, order)
    if start < count_within(limits):
        least, greatest = limits
        counts = rising_at(least, greatest, start)
        while counts is not None:
            yield word_with(counts)
            counts = rising_after(least, greatest, counts)


def check_cars(row, *cars):
    """Raise NoCar(value) with the first one that is not a car of the row."""
    for car in cars:
        if not is_car(row, car):
            raise NoCar(car)


def how_often(least, greatest, most):
    """In which histories a count with this least and greatest value is at most so large."""
    if greatest <= most:
        return "always"
    return "sometimes" if least <= most else "never"


def waits_at_arrival(rule, row, order, one, other):
    """In which histories with this order car one waits when car other comes."""
    check_order(row, order)
    check_cars(row, one, other)
    least, greatest = bounds_of(rule, row, order)
    if one >= other:
        return "never"
    return how_often(least[other], greatest[other], places_in(order)[one])


def waits_at_passing(rule, row, order, one, other):
    """In which histories with this order car one waits when car other passes."""
    check_order(row, order)
    check_cars(row, one, other)
    least, greatest = bounds_of(rule, row, order)
    places = places_in(order)
    if places[one] <= places[other]:
        return "never"
    return how_often(least[one], greatest[one], places[other])


def most_waiting(order, counts, cars):
    """How many of these cars, in ascending order, wait at once at most in the history with the counts."""
    waiting = [0]
    for came, car in enumerate(cars, start=1):
        passed = [other for other in order[:counts[car]] if other in cars]
        waiting.append(came - len(passed))
    return max(waiting)


def longest_of(rule, row, order, cars):
    """The least and the greatest number of these cars that wait at once at most."""
    # The more passings come before each arrival, the fewer cars wait at any time.
    least, greatest = bounds_of(rule, row, order)
    return (most_waiting(order, greatest, cars), most_waiting(order, least, cars))


def longest_line(rule, row, order):
    """The least and the greatest number of cars that wait at once at most."""
    return longest_of(rule, row, order, list(range(len(row))))


def longest_in_lane(rule, row, order, lane):
    """The least and the greatest number of cars of this lane that wait at once at most."""
    check_order(row, order)
    check_lane(rule, lane)
    return longest_of(rule, row, order, [car for car in range(len(row)) if row[car] == lane])


def merged(rule, row, *words, most=False):
    """The history with the least, or with most the greatest, of the counts for each car."""
    counts = [counts_of(row, word) for word in words]
    orders = [order_of(rule, row, word) for word in words]
    if any([order != orders[0] for order in orders]):
        raise OtherOrder()
    chosen = []
    for car in range(len(row)):
        found = [of_word[car] for of_word in counts]
        chosen.append(max(found) if most else min(found))
    return word_with(chosen)


def is_wish(row, value):
    """Whether value is a wish for the row."""
    if not isinstance(value, tuple) or len(value) != 3:
        return False
    kind, car, other = value
    return (kind == "before" or kind == "behind") and is_car(row, car) and is_car(row, other)


def check_wishes(row, wishes):
    """Raise BadWish(index) with the index of the first one that is not a wish for the row."""
    for index, wish in enumerate(wishes):
        if not is_wish(row, wish):
            raise BadWish(index)


def limits_meeting(rule, row, order, wishes):
    """The least and the greatest counts in the histories that meet the wishes, None if there is none."""
    limits = count_limits(rule, row, order)
    if limits is None:
        return None
    places = places_in(order)
    lows = list(limits[0])
    highs = list(limits[1])
    for kind, car, other in wishes:
        if kind == "before":
            highs[car] = min(highs[car], places[other])
        else:
            lows[car] = max(lows[car], places[other] + 1)
    return tightened(lows, highs)


def meeting(rule, row, order, *wishes):
    """The history with this order that meets the wishes and has the greatest counts, or None."""
    check_order(row, order)
    check_wishes(row, wishes)
    limits = limits_meeting(rule, row, order, wishes)
    return None if limits is None else word_with(limits[1])


def count_meeting(rule, row, order, *wishes):
    """The number of histories with this order that meet the wishes."""
    check_order(row, order)
    check_wishes(row, wishes)
    return count_within(limits_meeting(rule, row, order, wishes))


def wish_follows(rule, row, order, wish, *wishes):
    """Whether all histories with this order that meet the wishes meet this wish, too."""
    check_order(row, order)
    if not is_wish(row, wish):
        raise BadWish(None)
    check_wishes(row, wishes)
    limits = limits_meeting(rule, row, order, wishes)
    if limits is None:
        return True
    kind, car, other = wish
    place = places_in(order)[other]
    return limits[1][car] <= place if kind == "before" else limits[0][car] > place

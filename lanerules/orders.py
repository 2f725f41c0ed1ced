"""Orders in which the cars of a row pass: which are possible by a rule, and why others are not."""

from lanerules.bounds import SMALL
from lanerules.counts import places_in, word_with
from lanerules.errors import Impossible, NoIndex, NoOrder, TooLarge
from lanerules.kinds import is_arrangement, is_within
from lanerules.rising import tightened
from lanerules.rules import goes_before, is_history, order_of


def is_order(row, value):
    """Whether value is an order of the row."""
    return is_arrangement(value, len(row))


def check_order(row, order):
    """Raise NoOrder() if order is not an order of the row."""
    if not is_order(row, order):
        raise NoOrder()


def is_car(row, value):
    """Whether value is the number of a car of the row."""
    return is_within(value, 0, len(row) - 1)


def is_overtaken(row, places, car):
    """Whether a later car of its lane stands before this car."""
    later = [other for other in range(car + 1, len(row)) if row[other] == row[car]]
    return any([places[other] < places[car] for other in later])


def overtaken(row, order):
    """The ascending tuple of the cars that stand behind a later car of their lane."""
    check_order(row, order)
    places = places_in(order)
    return tuple([car for car in range(len(row)) if is_overtaken(row, places, car)])


def first_cars(row, cars):
    """The first one of these cars in each lane, in ascending order."""
    lanes = []
    found = []
    for car in sorted(cars):
        if row[car] not in lanes:
            lanes.append(row[car])
            found.append(car)
    return found


def last_lane(row, passed):
    """The lane of the last of the cars that passed, None if there is none."""
    return row[passed[-1]] if len(passed) > 0 else None


def rivals_of(rule, row, passed, firsts, car):
    """Those of the first cars whose lanes go before the lane of the car after these have passed."""
    last = last_lane(row, passed)
    return [other for other in firsts if goes_before(rule, last, row[other], row[car])]


def rivals_at(rule, row, order, place):
    """The ascending tuple of the rivals at this place."""
    firsts = first_cars(row, order[place:])
    return tuple(rivals_of(rule, row, order[:place], firsts, order[place]))


def rivals(rule, row, order):
    """The tuple of the ascending tuples of the rivals at each place."""
    check_order(row, order)
    return tuple([rivals_at(rule, row, order, place) for place in range(len(order))])


def clashes(rule, row, order):
    """The ascending tuple of all pairs of cars that clash."""
    found = []
    for place, ones in enumerate(rivals(rule, row, order)):
        came = order[:place + 1]
        found.extend([(one, other) for one in ones for other in came if one < other])
    return tuple(sorted(set(found)))


def counts_demanded(rule, row, order):
    """For each car the least count that it may have as a rival."""
    found = [0 for car in order]
    for place, cars in enumerate(rivals(rule, row, order)):
        for car in cars:
            found[car] = place + 1
    return found


def count_limits(rule, row, order):
    """The least and the greatest counts in the histories with this order, None if there is none."""
    if len(overtaken(row, order)) > 0:
        return None
    return tightened(counts_demanded(rule, row, order), places_in(order))


def is_possible(rule, row, order):
    """Whether the order is that of some history by the rule."""
    return count_limits(rule, row, order) is not None


def verdict(rule, row, order):
    """A history with this order, or a reason why there is none."""
    limits = count_limits(rule, row, order)
    if limits is not None:
        return ("history", word_with(limits[1]))
    behind = overtaken(row, order)
    if len(behind) > 0:
        return ("overtaken", behind[0])
    one, other = clashes(rule, row, order)[0]
    return ("clash", one, other)


def has_order(rule, row, order, word):
    """Whether word is a history of the row with this order."""
    return is_history(row, word) and order_of(rule, row, word) == order


def verdict_holds(rule, row, order, value):
    """Whether value is a history with this order, or a right reason why there is none."""
    check_order(row, order)
    if not isinstance(value, tuple) or len(value) < 2:
        return False
    kind, *told = value
    if kind == "history":
        return len(told) == 1 and has_order(rule, row, order, told[0])
    # True and False are equal to cars, but they are none.
    if not all([is_car(row, car) for car in told]):
        return False
    if kind == "overtaken":
        return len(told) == 1 and told[0] in overtaken(row, order)
    return kind == "clash" and tuple(told) in clashes(rule, row, order)


def bounds_of(rule, row, order):
    """The least and the greatest count of each car in the histories with this order."""
    limits = count_limits(rule, row, order)
    if limits is None:
        raise Impossible()
    return limits


def possible_by(row, order, *rules):
    """The ascending tuple of the indexes of the rules by which the order is possible."""
    check_order(row, order)
    return tuple([index for index, rule in enumerate(rules) if is_possible(rule, row, order)])


def ways_on(rule, row, passed, came):
    """Each way to let one more car pass: the cars that passed then, and how many must have come."""
    firsts = first_cars(row, [car for car in range(len(row)) if car not in passed])
    found = []
    for car in firsts:
        # The fewer cars have come, the more can still happen; so no more come than must.
        needed = max(came, car + 1)
        if all([other >= needed for other in rivals_of(rule, row, passed, firsts, car)]):
            found.append(((*passed, car), needed))
    return found


def each_possible(rule, row):
    """Yield all possible orders in ascending order."""
    # Each beginning that is kept here can be completed, so no search is in vain.
    begun = [((), 0)]
    while len(begun) > 0:
        passed, came = begun.pop()
        if len(passed) == len(row):
            yield passed
        else:
            begun.extend(ways_on(rule, row, passed, came)[::-1])


def check_small(row):
    """Raise TooLarge(SMALL) if the row has too many cars to list its orders."""
    if len(row) > SMALL:
        raise TooLarge(SMALL)


def possible_orders(rule, row):
    """The tuple of all possible orders, in ascending order."""
    check_small(row)
    return tuple(each_possible(rule, row))


class Orders:
    """The possible orders of a row by a rule."""

    def __init__(self, rule, row):
        self.found = possible_orders(rule, row)
        self.numbers = {order: number for number, order in enumerate(self.found)}
        self.coming = row

    def __len__(self):
        return len(self.found)

    def __contains__(self, x):
        return is_order(self.coming, x) and x in self.numbers

    def __getitem__(self, at):
        if not is_within(at, 0, len(self.found) - 1):
            raise NoIndex(at)
        return self.found[at]

    def __iter__(self):
        raise TypeError("use each_possible to go through the orders")

    def place_of(self, order):
        """The index of a possible order."""
        check_order(self.coming, order)
        if order not in self.numbers:
            raise Impossible()
        return self.numbers[order]

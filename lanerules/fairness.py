"""How long a lane can be passed over by a rule, and the smallest days that tell two rules apart."""

from lanerules.bounds import MAX_CARS
from lanerules.delays import overs_in, waits_in
from lanerules.errors import NoCount, NoLane, OtherLanes
from lanerules.kinds import is_within
from lanerules.rules import check_lane, check_rule, goes_before, is_lane, order_of, run

TWO_CARS = ("aapp", "apap")
THREE_CARS = ("aaappp", "aapapp", "aappap", "apaapp", "apapap")


def lanes_of(rule):
    """The list of the lanes of the rule."""
    return list(range(len(rule) - 1))


def lanes_before(rule, lane, last):
    """The ascending list of the lanes that go before the lane after last."""
    return [other for other in lanes_of(rule) if goes_before(rule, last, other, lane)]


def run_lengths(rule, lane):
    """For the start and each lane the greatest length of a run for the lane from there.

    Runs are looked at up to as many items as there are lanes: a longer one has a lane twice.
    """
    ways = [lanes_before(rule, lane, last) for last in [None, *lanes_of(rule)]]
    lengths = [0 for way in ways]
    for item in lanes_of(rule):
        lengths = [max([1 + lengths[1 + other] for other in way], default=0) for way in ways]
    return lengths


def bound_of(rule, lane):
    """The greatest length of a run for the lane, None if there is no greatest one."""
    check_lane(rule, lane)
    longest = max(run_lengths(rule, lane))
    # A run without a ring has each of the other lanes at most once.
    return longest if longest < len(rule) - 1 else None


def lane_bounds(rule):
    """The tuple of the bounds of all lanes."""
    return tuple([bound_of(rule, lane) for lane in lanes_of(rule)])


def rings_for(rule, lane):
    """The list of all rings for the lane that begin with their least item, in ascending order."""
    found = []
    begun = [(first,) for first in lanes_of(rule) if first != lane][::-1]
    while len(begun) > 0:
        part = begun.pop()
        ways = lanes_before(rule, lane, part[-1])
        if part[0] in ways:
            found.append(part)
        later = [other for other in ways if other > part[0] and other not in part]
        begun.extend([(*part, other) for other in later[::-1]])
    return found


def longest_run(rule, lane, lengths):
    """A longest run for the lane, which has no ring."""
    length = max(lengths)
    last = [item for item, most in zip([None, *lanes_of(rule)], lengths) if most == length][0]
    found = [last]
    while length > 0:
        length -= 1
        last = [other for other in lanes_before(rule, lane, last) if lengths[1 + other] == length][0]
        found.append(last)
    return tuple(found)


def lane_verdict(rule, lane):
    """A ring for the lane, or a longest run for it with numbers that show that it is one."""
    if bound_of(rule, lane) is None:
        return ("ring", rings_for(rule, lane)[0])
    lengths = run_lengths(rule, lane)
    return ("bound", longest_run(rule, lane, lengths), tuple(lengths))


def is_chain(rule, lane, items):
    """Whether each item but the first one is a lane that goes before the lane after the item before."""
    if not all([is_lane(rule, item) for item in items[1:]]):
        return False
    return all([goes_before(rule, last, item, lane) for last, item in zip(items, items[1:])])


def is_ring_for(rule, lane, value):
    """Whether value is a ring for the lane."""
    if not isinstance(value, tuple) or len(value) == 0:
        return False
    return is_chain(rule, lane, (value[-1], *value)) and len(set(value)) == len(value)


def is_run_for(rule, lane, value):
    """Whether value is a run for the lane."""
    if not isinstance(value, tuple) or len(value) == 0:
        return False
    return (value[0] is None or is_lane(rule, value[0])) and is_chain(rule, lane, value)


def are_numbers_for(rule, lane, value, most):
    """Whether value is a tuple of numbers, at most so large, that fall along all runs for the lane."""
    if not isinstance(value, tuple) or len(value) != len(rule):
        return False
    if not all([is_within(number, 0, most) for number in value]):
        return False
    for last, number in zip([None, *lanes_of(rule)], value):
        if any([value[1 + other] >= number for other in lanes_before(rule, lane, last)]):
            return False
    return True


def lane_verdict_holds(rule, lane, value):
    """Whether value is a ring for the lane, or a longest run with its numbers, as lane_verdict returns them."""
    check_lane(rule, lane)
    if not isinstance(value, tuple):
        return False
    if len(value) == 2:
        return value[0] == "ring" and is_ring_for(rule, lane, value[1])
    if len(value) != 3 or value[0] != "bound" or not is_run_for(rule, lane, value[1]):
        return False
    return are_numbers_for(rule, lane, value[2], len(value[1]) - 1)


def starving(rule):
    """The ascending tuple of the lanes without a bound."""
    return tuple([lane for lane in lanes_of(rule) if bound_of(rule, lane) is None])


def each_ring(rule, lane):
    """Yield all rings for the lane that begin with their least item, in ascending order."""
    check_lane(rule, lane)
    for ring in rings_for(rule, lane):
        yield ring


def favoured(rule, lane, last):
    """The rule in which the lane goes before all others after last; all else is as in the rule."""
    check_lane(rule, lane)
    if last is not None:
        check_lane(rule, last)
    at = 0 if last is None else 1 + last
    others = [other for other in rule[at] if other != lane]
    return (*rule[:at], (lane, *others), *rule[at + 1:])


def mending(rule, lane):
    """The ascending tuple of the lanes after which the lane must be favoured to have a bound."""
    check_lane(rule, lane)
    return tuple([last for last in lanes_of(rule) if bound_of(favoured(rule, lane, last), lane) is not None])


def waits(rule, row, word):
    """For each car that came in the word, how many cars passed while it waited."""
    passed, after = run(rule, row, word)
    return waits_in(word, passed)


def passed_over(rule, row, word):
    """For each car that came, how many cars of other lanes passed while it was the first of its lane."""
    passed, after = run(rule, row, word)
    return overs_in(row, word, passed)


def run_of_length(rule, lane, count):
    """A run for the lane of just this length, which is at most the bound of the lane."""
    if bound_of(rule, lane) is not None:
        return longest_run(rule, lane, run_lengths(rule, lane))[:count + 1]
    ring = rings_for(rule, lane)[0]
    around = ring * count
    return (ring[-1], *around[:count])


def worst_day(rule, lane, count):
    """A row, a history of it and a car of this lane that is passed over by just count cars, or None."""
    bound = bound_of(rule, lane)
    if not is_within(count, 0, MAX_CARS - 2):
        raise NoCount(count)
    if bound is not None and bound < count:
        return None
    last, *others = run_of_length(rule, lane, count)
    # A car of the lane last passes alone, the car comes, and each of the others comes just in time.
    before = () if last is None else (last,)
    return ((*before, lane, *others), "ap" * len(before) + "a" + "ap" * count + "p", len(before))


def rows_of(lanes, cars):
    """The ascending list of all rows of so many lanes and cars."""
    found = [()]
    for car in range(cars):
        found = [(*row, lane) for row in found for lane in range(lanes)]
    return found


def first_telling(rule, other, cars, words):
    """The smallest tuple of a row and one of the words whose orders by the rules are different, or None."""
    for row in rows_of(len(rule) - 1, cars):
        for word in words:
            if order_of(rule, row, word) != order_of(other, row, word):
                return (row, word)
    return None


def telling_day(rule, other):
    """The smallest day that tells the two rules apart, None if they are equal."""
    if len(other) != len(rule):
        raise OtherLanes(len(other) - 1)
    if rule == other:
        return None
    if rule[0] != other[0]:
        return first_telling(rule, other, 2, TWO_CARS)
    return first_telling(rule, other, 3, THREE_CARS)


def telling_days(rule, *others):
    """The tuple of the smallest days that tell the rule and each of the others apart."""
    return tuple([telling_day(rule, other) for other in others])


def is_at_most(one, other):
    """Whether one bound is at most the other one; None is greater than all integers."""
    return other is None or one is not None and one <= other


def bound_line(lane, bound):
    """The line that shows the bound of a lane."""
    shown = "none" if bound is None else str(bound)
    return f"{lane:>2} {shown:>4}"


class Bounds:
    """The bounds of all lanes of a rule as a value."""

    def __init__(self, rule):
        check_rule(rule)
        self.longest = lane_bounds(rule)

    def __getitem__(self, at):
        if not is_within(at, 0, len(self.longest) - 1):
            raise NoLane(at)
        return self.longest[at]

    def __contains__(self, x):
        return is_within(x, 0, len(self.longest) - 1) and self.longest[x] is not None

    def __bool__(self):
        return bool(all([bound is not None for bound in self.longest]))

    def __len__(self):
        return len(self.longest)

    def __eq__(self, other):
        return isinstance(other, Bounds) and self.longest == other.longest

    def __str__(self):
        return "\n".join([bound_line(lane, bound) for lane, bound in enumerate(self.longest)])

    def __iter__(self):
        raise TypeError("ask for the bound of each lane")

    def at_most(self, other):
        """Whether each bound is at most that of the same lane in other."""
        if len(other.longest) != len(self.longest):
            raise OtherLanes(len(other.longest))
        return all([is_at_most(one, another) for one, another in zip(self.longest, other.longest)])

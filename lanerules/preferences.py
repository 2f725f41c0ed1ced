"""Preferences in which some lanes must stand before others: counted and numbered.

Sets of lanes are integers here: the bit with the number of a lane tells whether it is in the set.
"""


def with_lane(lanes, lane):
    """The set of these lanes and this one."""
    return lanes | (1 << lane)


def has_lane(lanes, lane):
    """Whether the lane is in this set."""
    return with_lane(lanes, lane) == lanes


def demands_at(count, index, pairs):
    """For each of so many lanes the set of those that pairs put before it in this preference."""
    found = [0 for lane in range(count)]
    for at, one, other in pairs:
        if at == index:
            found[other] = with_lane(found[other], one)
    return found


def closed(demands):
    """The demands and all that follow from several of them."""
    found = list(demands)
    for through in range(len(found)):
        for lane in range(len(found)):
            if has_lane(found[lane], through):
                found[lane] = found[lane] | found[through]
    return found


def ring_in(demands):
    """Lanes each of which must stand before the next one, and the last before the first, or None."""
    looped = [lane for lane, before in enumerate(closed(demands)) if has_lane(before, lane)]
    if len(looped) == 0:
        return None
    walked = []
    lane = looped[0]
    while lane not in walked:
        walked.append(lane)
        lane = [other for other in looped if has_lane(demands[lane], other)][0]
    start = [at for at, other in enumerate(walked) if other == lane][0]
    # Each step went from a lane to one that must stand before it.
    return tuple(walked[start:][::-1])


def next_lanes(demands, placed):
    """The lanes that can stand next behind the set of those that have been placed."""
    return [lane for lane, before in enumerate(demands)
            if not has_lane(placed, lane) and before | placed == placed]


def ways_behind(demands):
    """For each set of lanes how many ways there are to place all others behind them."""
    full = (1 << len(demands)) - 1
    ways = [1 for placed in range(full + 1)]
    for placed in reversed(range(full)):
        ways[placed] = sum([ways[with_lane(placed, lane)] for lane in next_lanes(demands, placed)])
    return ways


def preference_at(demands, ways, number):
    """The preference with this number, which is less than their count, in ascending order."""
    found = []
    placed = 0
    left = number
    while len(found) < len(demands):
        lanes = next_lanes(demands, placed)
        while left >= ways[with_lane(placed, lanes[0])]:
            left -= ways[with_lane(placed, lanes[0])]
            lanes = lanes[1:]
        found.append(lanes[0])
        placed = with_lane(placed, lanes[0])
    return tuple(found)


def preference_number(demands, ways, preference):
    """How many preferences that meet the demands come before this one."""
    before = 0
    placed = 0
    for lane in preference:
        smaller = [other for other in next_lanes(demands, placed) if other < lane]
        before = before + sum([ways[with_lane(placed, other)] for other in smaller])
        placed = with_lane(placed, lane)
    return before

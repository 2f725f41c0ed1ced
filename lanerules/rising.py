"""Tuples of integers from 0 on that never fall and lie between two bounds: counted and numbered."""


def tightened(lows, highs):
    """The least and the greatest tuple that never falls between the bounds; None if there is none."""
    least = [max(lows[:at + 1]) for at in range(len(lows))]
    greatest = [min(highs[at:]) for at in range(len(highs))]
    if any([low > high for low, high in zip(least, greatest)]):
        return None
    return (tuple(least), tuple(greatest))


def ways_from(later, number):
    """How many ways to go on there are behind this number; later has those of each next number."""
    return sum([later[other] for other in later if other >= number])


def rising_ways(least, greatest):
    """For each place a dict: how many ways to go on there are from each number that may stand there."""
    found = [{number: 1 for number in range(least[-1], greatest[-1] + 1)}]
    for at in reversed(range(len(least) - 1)):
        later = found[-1]
        found.append({number: ways_from(later, number) for number in range(least[at], greatest[at] + 1)})
    return found[::-1]


def count_rising(least, greatest):
    """How many tuples there are between the least and the greatest one."""
    return ways_from(rising_ways(least, greatest)[0], 0)


def rising_index(least, greatest, numbers):
    """How many tuples between the least and the greatest one come before these numbers."""
    before = 0
    lowest = 0
    for ways, number in zip(rising_ways(least, greatest), numbers):
        before = before + sum([ways[other] for other in ways if lowest <= other < number])
        lowest = number
    return before


def rising_at(least, greatest, index):
    """The tuple with this number, which is less than their count, in ascending order."""
    found = []
    number = 0
    left = index
    for low, ways in zip(least, rising_ways(least, greatest)):
        number = max(number, low)
        while left >= ways[number]:
            left -= ways[number]
            number += 1
        found.append(number)
    return tuple(found)


def rising_after(least, greatest, numbers):
    """The tuple that follows these numbers in ascending order, or None behind the greatest one."""
    growing = [at for at, number in enumerate(numbers) if number < greatest[at]]
    if len(growing) == 0:
        return None
    at = growing[-1]
    grown = numbers[at] + 1
    # Behind the place that grows, the least numbers come next; both bounds never fall, so they fit.
    later = [max(grown, low) for low in least[at + 1:]]
    kept = numbers[:at]
    return (*kept, grown, *later)

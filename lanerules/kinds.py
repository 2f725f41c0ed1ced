"""What kind of value something is: questions that every module asks of any value."""


def is_number(value):
    """Whether value is an integer; True and False are none."""
    return isinstance(value, int) and not isinstance(value, bool)


def is_within(value, low, high):
    """Whether value is an integer from low to high."""
    return is_number(value) and low <= value <= high


def is_arrangement(value, count):
    """Whether value is a tuple that contains each of 0, 1, .. up to count - 1 once."""
    if not isinstance(value, tuple) or len(value) != count:
        return False
    if not all([is_within(item, 0, count - 1) for item in value]):
        return False
    return len(set(value)) == count

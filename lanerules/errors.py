"""The errors of the package; each one keeps its arguments as attributes."""


class PassError(ValueError):
    """Any error of this package."""


class Absent(PassError):
    """A car has passed already."""

    def __init__(self, car):
        self.car = car


class BadBatch(PassError):
    """A batch is not a list or tuple of edits."""


class BadCount(PassError):
    """The count with this index is not one of a history."""

    def __init__(self, index):
        self.index = index


class BadDay(PassError):
    """The day with this index is not a day."""

    def __init__(self, index):
        self.index = index


class BadRow(PassError):
    """A value is not a row; error tells why."""

    def __init__(self, error):
        self.error = error


class BadRule(PassError):
    """A value is not a rule; error tells why."""

    def __init__(self, error):
        self.error = error


class BadText(PassError):
    """A text cannot be read; index is that of its first wrong word."""

    def __init__(self, index):
        self.index = index


class BadWish(PassError):
    """The wish with this index is not a wish."""

    def __init__(self, index):
        self.index = index


class BadWord(PassError):
    """A value is not a word of the row; error tells why."""

    def __init__(self, error):
        self.error = error


class Busy(PassError):
    """A crossing is asked for an edit while it tries a batch."""


class Empty(PassError):
    """Nobody waits."""


class Impossible(PassError):
    """No history has this order."""


class NoCar(PassError):
    """A value is not the number of a car that has come."""

    def __init__(self, value):
        self.value = value


class NoCount(PassError):
    """A value is not a number within its limits."""

    def __init__(self, value):
        self.value = value


class NoHistory(PassError):
    """A value is not a history of the row."""


class NoIndex(PassError):
    """A value is not the index of anything."""

    def __init__(self, index):
        self.index = index


class NoLane(PassError):
    """A value is not a lane of the rule."""

    def __init__(self, value):
        self.value = value


class NoOrder(PassError):
    """A value is not an order of the row."""


class NoPair(PassError):
    """A value is not a pair of lanes behind the index of a preference."""

    def __init__(self, value):
        self.value = value


class NoPreference(PassError):
    """Some lanes are not a preference."""


class NoRule(PassError):
    """A value is not a rule that explains the days."""


class NoVersion(PassError):
    """A value is not a version of the crossing."""

    def __init__(self, version):
        self.version = version


class NothingToUndo(PassError):
    """No edit stands."""


class OtherLanes(PassError):
    """A rule has another number of lanes."""

    def __init__(self, count):
        self.count = count


class OtherOrder(PassError):
    """A history has another order."""


class PassedOver(PassError):
    """A lane would be passed over too often."""

    def __init__(self, lane):
        self.lane = lane


class Rejected(PassError):
    """The edit with this index in a batch raised an error."""

    def __init__(self, index):
        self.index = index


class TooLarge(PassError):
    """There are more items than the limit allows."""

    def __init__(self, limit):
        self.limit = limit


class TooManyEdits(PassError):
    """No further edit may stand."""

"""Rules, rows, words and the days that they make."""

from lanerules.bounds import MAX_CARS, MAX_LANES
from lanerules.errors import BadRule, BadWord, Empty, NoCount, NoHistory, NoLane, NoPreference
from lanerules.kinds import is_arrangement, is_within


def rule_error(value):
    """None if value is a rule, otherwise a tuple that tells where it is none."""
    if not isinstance(value, tuple) or not 2 <= len(value) <= MAX_LANES + 1:
        return (None, "rule")
    for index, item in enumerate(value):
        if not is_arrangement(item, len(value) - 1):
            return (index, "preference")
    return None


def is_rule(value):
    """Whether value is a rule."""
    return rule_error(value) is None


def check_rule(value):
    """Raise BadRule(error) if value is not a rule."""
    error = rule_error(value)
    if error is not None:
        raise BadRule(error)


def is_lane(rule, value):
    """Whether value is a lane of the rule."""
    return is_within(value, 0, len(rule) - 2)


def check_lane(rule, value):
    """Raise NoLane(value) if value is not a lane of the rule."""
    if not is_lane(rule, value):
        raise NoLane(value)


def row_error(rule, value):
    """None if value is a row of the rule, otherwise a tuple that tells where it is none."""
    if not isinstance(value, tuple) or not 1 <= len(value) <= MAX_CARS:
        return (None, "row")
    for index, item in enumerate(value):
        if not is_lane(rule, item):
            return (index, "lane")
    return None


def is_row(rule, value):
    """Whether value is a row of the rule."""
    return row_error(rule, value) is None


def check_preference(lanes):
    """Raise NoPreference() if the tuple of lanes is not a preference of any rule."""
    if not 1 <= len(lanes) <= MAX_LANES or not is_arrangement(lanes, len(lanes)):
        raise NoPreference()


def ranks_rule(*lanes):
    """The rule whose preferences are all these lanes."""
    check_preference(lanes)
    return (lanes,) * (len(lanes) + 1)


def moved_to_end(lanes, lane):
    """The tuple of the lanes with this lane at its end."""
    others = [other for other in lanes if other != lane]
    return (*others, lane)


def polite_rule(*lanes):
    """The rule of these lanes in which the lane that went last goes behind all others."""
    check_preference(lanes)
    later = [moved_to_end(lanes, last) for last in range(len(lanes))]
    return (lanes, *later)


def turns_rule(count):
    """The rule of so many lanes in which they take turns."""
    if not is_within(count, 1, MAX_LANES):
        raise NoCount(count)
    lanes = tuple(range(count))
    later = [lanes[last + 1:] + lanes[:last + 1] for last in lanes]
    return (lanes, *later)


def preference_after(rule, last):
    """The preference that counts after last, or at the start if last is None."""
    if last is None:
        return rule[0]
    check_lane(rule, last)
    return rule[1 + last]


def foremost(preference, lanes):
    """The one of the lanes, of which there is at least one, that goes before all others."""
    return [lane for lane in preference if lane in lanes][0]


def first_lane(rule, last, *waiting):
    """The lane that goes before all others of the waiting ones."""
    preference = preference_after(rule, last)
    if len(waiting) == 0:
        raise Empty()
    for lane in waiting:
        check_lane(rule, lane)
    return foremost(preference, waiting)


def letter_error(value):
    """None, or the tuple that tells the first character that is no letter of a word."""
    for index, letter in enumerate(value):
        if letter != "a" and letter != "p":
            return (index, "letter")
    return None


def step_error(cars, letters):
    """None, or the tuple that tells the first letter that cannot take place with so many cars."""
    came = 0
    passed = 0
    for index, letter in enumerate(letters):
        if letter == "a":
            if came == cars:
                return (index, "arrival")
            came += 1
        else:
            if passed == came:
                return (index, "passing")
            passed += 1
    return None


def word_error(row, value):
    """None if value is a word of the row, otherwise a tuple that tells where it is none."""
    if not isinstance(value, str):
        return (None, "string")
    error = letter_error(value)
    if error is not None:
        return error
    return step_error(len(row), value)


def is_history(row, value):
    """Whether value is a history of the row."""
    # A word has at most one arrival for each car and one passing for each arrival,
    # so only the longest words have all of both.
    return word_error(row, value) is None and len(value) == 2 * len(row)


def next_car(rule, row, last, waiting):
    """The one of the waiting cars, in ascending order and not none, that passes after last."""
    lane = foremost(preference_after(rule, last), [row[car] for car in waiting])
    return [car for car in waiting if row[car] == lane][0]


def each_step(rule, row, word):
    """Yield the letter, its car and the cars that wait afterwards, for each letter of the word."""
    error = word_error(row, word)
    if error is not None:
        raise BadWord(error)
    came = 0
    last = None
    waiting = ()
    for letter in word:
        if letter == "a":
            car = came
            came += 1
            waiting = (*waiting, car)
        else:
            car = next_car(rule, row, last, waiting)
            last = row[car]
            waiting = tuple([other for other in waiting if other != car])
        yield (letter, car, waiting)


def run(rule, row, word):
    """The tuple of the cars that passed in the word, and that of those that wait after it."""
    steps = list(each_step(rule, row, word))
    passed = [car for letter, car, after in steps if letter == "p"]
    waiting = steps[-1][2] if len(steps) > 0 else ()
    return (tuple(passed), waiting)


def order_of(rule, row, word):
    """The order of a history by the rule."""
    if not is_history(row, word):
        raise NoHistory()
    return run(rule, row, word)[0]


def goes_before(rule, last, one, other):
    """Whether the lane one goes before the lane other after last."""
    return one != other and foremost(preference_after(rule, last), (one, other)) == one


def is_precedence(rule, value):
    """Whether value is a tuple (last, one, other) such that one goes before other after last."""
    if not isinstance(value, tuple) or len(value) != 3:
        return False
    last, one, other = value
    if last is not None and not is_lane(rule, last):
        return False
    return is_lane(rule, one) and is_lane(rule, other) and goes_before(rule, last, one, other)


class Rule:
    """A rule as an object that can be called."""

    def __init__(self, value):
        check_rule(value)
        self.preferences = value

    @property
    def table(self):
        """The rule as a tuple."""
        return self.preferences

    @property
    def lanes(self):
        """The number of lanes."""
        return len(self.preferences) - 1

    def __call__(self, last, waiting):
        return first_lane(self.preferences, last, *waiting)

    def __getitem__(self, at):
        return preference_after(self.preferences, at)

    def __contains__(self, x):
        return is_precedence(self.preferences, x)

    def __eq__(self, other):
        return isinstance(other, Rule) and self.preferences == other.preferences

    def __iter__(self):
        raise TypeError("a rule is not iterated over")

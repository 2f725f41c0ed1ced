"""What days that were watched tell of the rule that was in force."""

from lanerules.bounds import MAX_LANES
from lanerules.counts import counts_in
from lanerules.errors import BadDay, BadRow, NoCount, NoHistory, NoIndex, NoPair, NoRule, OtherLanes
from lanerules.kinds import is_within
from lanerules.orders import first_cars, is_order, overtaken
from lanerules.pairs import (all_pairs, choices_of, first_ring, has_pairs, is_pair, is_ring, number_of,
                             pairs_following, product_of, rule_numbered)
from lanerules.preferences import demands_at, preference_at, ways_behind
from lanerules.rules import is_history, is_row, is_rule, row_error, turns_rule


def check_lanes(lanes):
    """Raise NoCount(lanes) if lanes is not a number of lanes."""
    if not is_within(lanes, 1, MAX_LANES):
        raise NoCount(lanes)


def is_watched(row, word, order):
    """Whether the cars can be seen to pass in this order, by some rule or by none, in the history."""
    if not is_order(row, order) or len(overtaken(row, order)) > 0:
        return False
    counts = counts_in(word)
    return all([counts[car] <= place for place, car in enumerate(order)])


def day_error(lanes, value):
    """None if value is a day of so many lanes, otherwise the name of what is wrong."""
    check_lanes(lanes)
    if not isinstance(value, tuple) or len(value) != 3:
        return "day"
    row, word, order = value
    if not is_row(turns_rule(lanes), row):
        return "row"
    if not is_history(row, word):
        return "word"
    return None if is_watched(row, word, order) else "order"


def is_day(lanes, value):
    """Whether value is a day of so many lanes."""
    return day_error(lanes, value) is None


def check_days(lanes, days):
    """Raise NoCount(lanes), or BadDay(index) with the index of the first one that is not a day."""
    check_lanes(lanes)
    for index, day in enumerate(days):
        if not is_day(lanes, day):
            raise BadDay(index)


def index_after(row, passed):
    """The index of the preference that counts after these cars have passed."""
    return 1 + row[passed[-1]] if len(passed) > 0 else 0


def day_pairs(day):
    """The list of the pairs that the day tells, perhaps repeated."""
    row, word, order = day
    counts = counts_in(word)
    found = []
    for place, car in enumerate(order):
        index = index_after(row, order[:place])
        waiting = [row[other] for other in order[place:] if counts[other] <= place]
        found.extend([(index, row[car], lane) for lane in waiting if lane != row[car]])
    return found


def united(told):
    """The ascending tuple of all pairs that stand in one of some lists of pairs, each once."""
    return tuple(sorted(set([pair for pairs in told for pair in pairs])))


def pairs_told(lanes, *days):
    """The ascending tuple of all pairs that the days tell, each once."""
    check_days(lanes, days)
    return united([day_pairs(day) for day in days])


def explains(rule, *days):
    """Whether the rule explains all of the days."""
    return has_pairs(rule, pairs_told(len(rule) - 1, *days))


def is_explaining(value, lanes, pairs):
    """Whether value is a rule of so many lanes that has all of the pairs."""
    return is_rule(value) and len(value) == lanes + 1 and has_pairs(value, pairs)


def explanation(lanes, *days):
    """A rule that explains all of the days, or a ring if there is none."""
    pairs = pairs_told(lanes, *days)
    found = first_ring(lanes, pairs)
    if found is None:
        return ("rule", rule_numbered(choices_of(lanes, pairs), 0))
    index, ring = found
    return ("ring", index, ring)


def explanation_holds(value, lanes, *days):
    """Whether value is a rule that explains all of the days, or a ring, as explanation returns them."""
    pairs = pairs_told(lanes, *days)
    if not isinstance(value, tuple):
        return False
    if len(value) == 2:
        return value[0] == "rule" and is_explaining(value[1], lanes, pairs)
    return len(value) == 3 and value[0] == "ring" and is_ring(value[1], value[2], lanes, pairs)


def count_rules(lanes, *days):
    """The number of rules of so many lanes that explain all of the days."""
    return product_of(choices_of(lanes, pairs_told(lanes, *days)))


def rule_at(index, lanes, *days):
    """The rule with this number of those that explain all of the days."""
    choices = choices_of(lanes, pairs_told(lanes, *days))
    if not is_within(index, 0, product_of(choices) - 1):
        raise NoIndex(index)
    return rule_numbered(choices, index)


def rule_index(value, lanes, *days):
    """The number of this rule among those that explain all of the days."""
    pairs = pairs_told(lanes, *days)
    if not is_explaining(value, lanes, pairs):
        raise NoRule()
    return number_of(choices_of(lanes, pairs), value)


def each_rule(lanes, *days, index=0):
    """Yield the rules that explain all of the days from the one with the number index on."""
    choices = choices_of(lanes, pairs_told(lanes, *days))
    total = product_of(choices)
    if not is_within(index, 0, total):
        raise NoIndex(index)
    for number in range(index, total):
        yield rule_numbered(choices, number)


def check_pair(lanes, pair):
    """Raise NoPair(pair) if pair is not a pair of so many lanes."""
    if not is_pair(lanes, pair):
        raise NoPair(pair)


def follows(pair, lanes, *days):
    """Whether all rules that explain the days have the pair."""
    pairs = pairs_told(lanes, *days)
    check_pair(lanes, pair)
    return pair in pairs_following(lanes, pairs)


def sure_pairs(lanes, *days):
    """The ascending tuple of all pairs that follow from the days."""
    return pairs_following(lanes, pairs_told(lanes, *days))


def open_pairs(lanes, *days):
    """The ascending tuple of all pairs, with the lower lane first, that are not settled by the days."""
    sure = sure_pairs(lanes, *days)
    return tuple([(index, one, other) for index, one, other in all_pairs(lanes) if one < other
                  and (index, one, other) not in sure and (index, other, one) not in sure])


def halves(pair, lanes, *days):
    """How many of the rules that explain the days have the pair, and how many do not."""
    pairs = pairs_told(lanes, *days)
    check_pair(lanes, pair)
    total = product_of(choices_of(lanes, pairs))
    having = product_of(choices_of(lanes, (*pairs, pair)))
    return (having, total - having)


def first_contradicted(lanes, *days):
    """The index of the first day that no rule explains together with all days before it, or None."""
    check_days(lanes, days)
    pairs = ()
    for index, day in enumerate(days):
        pairs = united([pairs, day_pairs(day)])
        if first_ring(lanes, pairs) is not None:
            return index
    return None


def is_needless(lanes, told, index):
    """Whether the pairs of the day with this index follow from those that all other days tell."""
    sure = pairs_following(lanes, united(told[:index] + told[index + 1:]))
    return all([pair in sure for pair in told[index]])


def needless_days(lanes, *days):
    """The ascending tuple of the indexes of the days that follow from all other ones."""
    check_days(lanes, days)
    told = [united([day_pairs(day)]) for day in days]
    return tuple([index for index in range(len(days)) if is_needless(lanes, told, index)])


def sure_car(sure, row, waiting, passed):
    """The one of the waiting cars that passes next by all rules with the sure pairs, or None."""
    index = index_after(row, passed)
    firsts = first_cars(row, waiting)
    for car in firsts:
        others = [row[other] for other in firsts if other != car]
        if all([(index, row[car], lane) in sure for lane in others]):
            return car
    return None


def order_foretold(lanes, pairs, row, word):
    """The order that the word has by all rules with these pairs, None if there is no such order."""
    error = row_error(turns_rule(lanes), row)
    if error is not None:
        raise BadRow(error)
    if not is_history(row, word):
        raise NoHistory()
    if first_ring(lanes, pairs) is not None:
        return None
    sure = pairs_following(lanes, pairs)
    counts = counts_in(word)
    order = ()
    while len(order) < len(row):
        came = [car for car in range(len(row)) if counts[car] <= len(order)]
        car = sure_car(sure, row, [other for other in came if other not in order], order)
        if car is None:
            return None
        order = (*order, car)
    return order


def foretold(row, word, lanes, *days):
    """The order that the word has by all rules that explain the days, None if there is no such order."""
    return order_foretold(lanes, pairs_told(lanes, *days), row, word)


class Learned:
    """What some days tell."""

    def __init__(self, lanes, *days):
        self.sure = sure_pairs(lanes, *days)
        # The same rules have all pairs that are told and all that follow from these.
        self.total = product_of(choices_of(lanes, self.sure))
        self.many = lanes
        self.watched = days

    @property
    def lanes(self):
        """The number of lanes."""
        return self.many

    @property
    def days(self):
        """The tuple of the days."""
        return self.watched

    @property
    def rules_left(self):
        """The number of rules that explain all of the days."""
        return self.total

    def __call__(self, row, word):
        return order_foretold(self.many, self.sure, row, word)

    def __getitem__(self, at):
        if not is_within(at, 0, self.many):
            raise NoIndex(at)
        demands = demands_at(self.many, at, self.sure)
        ways = ways_behind(demands)
        return preference_at(demands, ways, 0) if ways[0] == 1 else None

    def __contains__(self, x):
        return is_pair(self.many, x) and x in self.sure

    def __add__(self, other):
        if self.many != other.many:
            raise OtherLanes(other.many)
        days = (*self.watched, *other.watched)
        return Learned(self.many, *days)

    def implies(self, other):
        """Whether other has as many lanes and is told nothing that does not follow here."""
        return self.many == other.many and all([pair in self.sure for pair in other.sure])

    def __eq__(self, other):
        return isinstance(other, Learned) and self.many == other.many and self.sure == other.sure

    def __len__(self):
        return len(self.watched)

    def __bool__(self):
        return bool(self.total > 0)

    def __str__(self):
        return f"{self.many} lanes, {len(self.watched)} days, {self.total} rules"

    def __iter__(self):
        raise TypeError("what was learned is not iterated over")

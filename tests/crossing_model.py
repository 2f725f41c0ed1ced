"""A second, independent way to tell what a crossing shows: everything is played anew from its standing edits."""

from lanerules.crossings import Crossing, WatchedCrossing
from lanerules.errors import Absent, BadRule, Empty, NoCar, NoLane, NoVersion, OtherLanes, PassedOver, TooLarge, TooManyEdits
from lanerules.rules import is_rule, rule_error
from tests.samples import any_values


def is_int(value):
    return type(value) is int


class Model:
    """A crossing played with one queue for each lane; edits are done at once and never undone."""

    def __init__(self, rule, lanes=(), edits=()):
        self.rule, self.row, self.passed, self.word = rule, [], [], ""
        self.queues = [[] for _ in rule[0]]
        self.overs = [0] * len(rule[0])
        self.skips = {}
        for lane in lanes:
            self.come(lane)
        for name, *told in edits:
            getattr(self, name)(*told)

    def come(self, lane):
        self.queues[lane].append(len(self.row))
        self.row.append(lane)
        self.word += "a"

    def preference(self):
        return self.rule[1 + self.row[self.passed[-1]]] if self.passed else self.rule[0]

    def go(self):
        lane = next(lane for lane in self.preference() if self.queues[lane])
        for other, queue in enumerate(self.queues):
            if queue and other != lane:
                self.skips[queue[0]] = self.skips.get(queue[0], 0) + 1
                self.overs[other] = max(self.overs[other], self.skips[queue[0]])
        self.passed.append(self.queues[lane].pop(0))
        self.word += "p"

    def change(self, rule):
        self.rule = rule

    def waiting(self):
        return sorted(car for queue in self.queues for car in queue)

    def ahead(self):
        """The cars that pass next if no other one comes; the model is used up by this."""
        before = len(self.passed)
        while self.waiting():
            self.go()
        return self.passed[before:]


def edit_error(rule, lanes, edits, edit, bound=None):
    """The error that this edit raises behind the others, None if it raises none."""
    model = Model(rule, lanes, edits)
    name, *told = edit
    if len(edits) >= 60:
        return TooManyEdits()
    if name == "come":
        if not is_int(told[0]) or not 0 <= told[0] < len(rule[0]):
            return NoLane(told[0])
        return TooLarge(40) if len(model.row) >= 40 else None
    if name == "change":
        if not is_rule(told[0]):
            return BadRule(rule_error(told[0]))
        return OtherLanes(len(told[0]) - 1) if len(told[0]) != len(rule) else None
    if not model.waiting():
        return Empty()
    model.go()
    over = [lane for lane, most in enumerate(model.overs) if bound is not None and most > bound]
    return PassedOver(over[0]) if over else None


def edits_error(rule, lanes, edits, wanted, bound=None):
    """The index and the first error of some edits, or None."""
    done = list(edits)
    for index, edit in enumerate(wanted):
        error = edit_error(rule, lanes, done, edit, bound)
        if error is not None:
            return (index, error)
        done.append(edit)
    return None


def goes_until(rule, lanes, edits, car):
    """The edits that let this car pass, or the error of a car that does not wait."""
    model = Model(rule, lanes, edits)
    if not is_int(car) or not 0 <= car < len(model.row):
        return NoCar(car)
    if car in model.passed:
        return Absent(car)
    return [("go",)] * (model.ahead().index(car) + 1)


def shown_by(crossing):
    """All that a crossing shows at present."""
    return [crossing.current(), crossing.row(), crossing.waiting(), crossing.passed(), crossing.word(), crossing.cars,
            crossing.length, crossing.previous, crossing.upcoming, list(crossing.foresee()), bool(crossing),
            crossing.edits(), len(crossing)]


def expected_of(rule, lanes, edits):
    """The same, from the standing edits."""
    model, again = Model(rule, lanes, edits), Model(rule, lanes, edits)
    waiting, ahead = tuple(model.waiting()), again.ahead()
    previous = model.row[model.passed[-1]] if model.passed else None
    return [model.rule, tuple(model.row), waiting, tuple(model.passed), model.word, len(model.row), len(waiting), previous,
            ahead[0] if ahead else None, ahead, len(waiting) > 0, tuple(edits), len(edits)]


def check_versions(case, crossing, rule, lanes, edits):
    for version in range(len(edits) + 1):
        current, row, waiting, passed, *rest = expected_of(rule, lanes, edits[:version])
        case.assert_same([crossing.current(version=version), crossing.row(version=version),
                          crossing.waiting(version=version), crossing.passed(version=version)],
                         [current, row, waiting, passed])
    for query in (crossing.current, crossing.row, crossing.waiting, crossing.passed):
        case.assert_error(NoVersion(len(edits) + 1), lambda: query(version=len(edits) + 1))


def check_signs(case, crossing, rule, lanes, edits):
    model = Model(rule, lanes, edits)
    for lane in range(len(rule[0])):
        case.assert_same(crossing(lane), tuple(model.queues[lane]))
    for car in range(-1, len(model.row) + 2):
        case.assertIs(car in crossing, car in model.waiting())
        if 0 <= car < len(model.row):
            case.assert_same(crossing[car], model.row[car])
        else:
            case.assert_error(NoCar(car), lambda: crossing[car])


def check_crossing(case, crossing, rule, lanes, edits, bound=None, kind=Crossing):
    """All queries, at all versions, show what the standing edits give."""
    edits = tuple(edits)
    model = Model(rule, lanes, edits)
    case.assert_same(shown_by(crossing), expected_of(rule, lanes, edits))
    check_versions(case, crossing, rule, lanes, edits)
    check_signs(case, crossing, rule, lanes, edits)
    text = f"{len(model.row)} cars, {len(model.waiting())} waiting, {len(edits)} edits"
    case.assertIs(type(crossing), kind)
    if issubclass(kind, WatchedCrossing):
        text += ", passed over " + " ".join(str(over) for over in model.overs)
        case.assert_same((crossing.overs, crossing.bound), (tuple(model.overs), bound))
    case.assertEqual(str(crossing), text)


def some_lanes(draws, rule, many):
    """Lanes, seldom a wrong value."""
    wrong = [None, len(rule[0]), -1, True, "0", (0,), *any_values()[:12]]
    return [wrong[draws.below(len(wrong))] if draws.below(40) == 0 else draws.below(len(rule[0])) for _ in range(many)]


def some_edit(draws, rule):
    """An edit, seldom one that cannot be done."""
    what = draws.below(10)
    if what < 5:
        return ("come", some_lanes(draws, rule, 1)[0])
    if what < 9:
        return ("go",)
    if draws.below(8) == 0:
        return ("change", [None, ((0,), (0,)), ((0, 1), (1, 1), (0, 1)), rule[1:], list(rule)][draws.below(5)])
    return ("change", draws.rule(len(rule[0])))

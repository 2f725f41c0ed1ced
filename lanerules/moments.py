"""What a crossing is after some edits: moments, each made from the one before it by one edit."""

from lanerules.bounds import MAX_CARS
from lanerules.delays import worst_overs
from lanerules.errors import Empty, OtherLanes, PassedOver, TooLarge
from lanerules.orders import last_lane
from lanerules.rules import check_lane, check_rule, next_car


class Moment:
    """A crossing behind an edit, which is None at first; no moment is ever changed."""

    def __init__(self, edit, rule, came, gone, letters):
        self.edit = edit
        self.chosen = rule
        self.came = came
        self.gone = gone
        self.letters = letters


def first_moment(rule, lanes):
    """The moment without edits in which cars of these lanes have come."""
    check_rule(rule)
    for lane in lanes:
        check_lane(rule, lane)
    if len(lanes) > MAX_CARS:
        raise TooLarge(MAX_CARS)
    return Moment(None, rule, tuple(lanes), (), "a" * len(lanes))


def waiting_cars(moment):
    """The ascending tuple of the waiting cars."""
    return tuple([car for car in range(len(moment.came)) if car not in moment.gone])


def waiting_in(moment, lane):
    """The ascending tuple of the waiting cars of this lane."""
    check_lane(moment.chosen, lane)
    return tuple([car for car in waiting_cars(moment) if moment.came[car] == lane])


def previous_lane(moment):
    """The lane of the last car that passed, None if none did."""
    return last_lane(moment.came, moment.gone)


def cars_ahead(moment):
    """The tuple of the waiting cars in the order in which they pass if no other car comes."""
    waiting = waiting_cars(moment)
    last = previous_lane(moment)
    found = []
    while len(waiting) > 0:
        car = next_car(moment.chosen, moment.came, last, waiting)
        last = moment.came[car]
        waiting = tuple([other for other in waiting if other != car])
        found.append(car)
    return tuple(found)


def upcoming_car(moment):
    """The car that passes next, None if none waits."""
    ahead = cars_ahead(moment)
    return ahead[0] if len(ahead) > 0 else None


def overs_at(moment):
    """For each lane the greatest number of other cars that passed while one car was the first of it."""
    return worst_overs(len(moment.chosen) - 1, moment.came, moment.letters, moment.gone)


def after_come(moment, lane):
    """The moment after a car has come in this lane."""
    check_lane(moment.chosen, lane)
    if len(moment.came) >= MAX_CARS:
        raise TooLarge(MAX_CARS)
    return Moment(("come", lane), moment.chosen, (*moment.came, lane), moment.gone, moment.letters + "a")


def after_go(moment, allowed):
    """The moment after a car has passed; no lane may be passed over by more cars than allowed."""
    car = upcoming_car(moment)
    if car is None:
        raise Empty()
    after = Moment(("go",), moment.chosen, moment.came, (*moment.gone, car), moment.letters + "p")
    if allowed is not None:
        for lane, over in enumerate(overs_at(after)):
            if over > allowed:
                raise PassedOver(lane)
    return after


def after_change(moment, rule):
    """The moment after the crossing has been given another rule."""
    check_rule(rule)
    if len(rule) != len(moment.chosen):
        raise OtherLanes(len(rule) - 1)
    return Moment(("change", rule), rule, moment.came, moment.gone, moment.letters)


def after_edit(moment, edit, allowed):
    """The moment after this edit."""
    if edit[0] == "come":
        return after_come(moment, edit[1])
    if edit[0] == "go":
        return after_go(moment, allowed)
    return after_change(moment, edit[1])


def is_edit(value):
    """Whether value has the form of an edit, with any value in the place of a lane or a rule."""
    if not isinstance(value, tuple) or not 1 <= len(value) <= 2:
        return False
    if len(value) == 1:
        return value[0] == "go"
    return value[0] == "come" or value[0] == "change"

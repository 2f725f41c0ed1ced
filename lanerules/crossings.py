"""Crossings on which cars come and pass, with undo."""

from lanerules.bounds import BATCH, MAX_CARS
from lanerules.errors import (Absent, BadBatch, Busy, NoCar, NoCount, NothingToUndo, NoVersion, PassError, Rejected,
                              TooManyEdits)
from lanerules.kinds import is_number, is_within
from lanerules.moments import (after_edit, cars_ahead, first_moment, is_edit, overs_at, previous_lane, upcoming_car,
                               waiting_cars, waiting_in)
from lanerules.orders import is_car
from lanerules.texts import numbers_text


def present(crossing):
    """The present moment of a crossing."""
    return crossing.steps[-1] if len(crossing.steps) > 0 else crossing.begun


def moment_at(crossing, version):
    """The moment of a crossing after so many of the edits that stand, the present one for None."""
    if version is None:
        return present(crossing)
    if not is_within(version, 0, len(crossing.steps)):
        raise NoVersion(version)
    return crossing.begun if version == 0 else crossing.steps[version - 1]


def lane_at(crossing, car):
    """The lane of a car of the crossing."""
    came = present(crossing).came
    if not is_car(came, car):
        raise NoCar(car)
    return came[car]


def is_waiting(crossing, value):
    """Whether value is the number of a car that waits before the crossing."""
    return is_number(value) and value in waiting_cars(present(crossing))


def looks_like(one, other):
    """Whether two moments have the same rule, row and cars that passed."""
    return one.chosen == other.chosen and one.came == other.came and one.gone == other.gone


def sizes_text(crossing):
    """The numbers of cars, of waiting ones and of edits."""
    moment = present(crossing)
    return f"{len(moment.came)} cars, {len(waiting_cars(moment))} waiting, {len(crossing.steps)} edits"


def is_batch(value):
    """Whether value is a batch of edits."""
    return isinstance(value, (list, tuple)) and len(value) <= BATCH and all([is_edit(item) for item in value])


def check_free(crossing):
    """Raise Busy() while the crossing tries a batch."""
    if crossing.busy:
        raise Busy()


def with_edit(crossing, steps, edit):
    """The tuple of the moments of the crossing after these, with one more edit."""
    if len(steps) >= crossing.LIMIT:
        raise TooManyEdits()
    last = steps[-1] if len(steps) > 0 else crossing.begun
    return (*steps, after_edit(last, edit, crossing.allowed))


def with_edits(crossing, edits):
    """The tuple of the moments of the crossing with these edits behind all that stand."""
    check_free(crossing)
    steps = crossing.steps
    for edit in edits:
        steps = with_edit(crossing, steps, edit)
    return steps


def with_goes(crossing, car):
    """The tuple of the moments of the crossing with edits that let cars pass, until this one has passed."""
    check_free(crossing)
    lane_at(crossing, car)
    if not is_waiting(crossing, car):
        raise Absent(car)
    steps = with_edits(crossing, [("go",)])
    while car not in steps[-1].gone:
        steps = with_edit(crossing, steps, ("go",))
    return steps


class Crossing:
    """A crossing with a rule, all cars that came, and the cars that passed."""

    LIMIT = 60

    def __init__(self, rule):
        self.begun = first_moment(rule, ())
        self.steps = ()
        self.busy = False
        self.allowed = None

    @classmethod
    def of(cls, rule, *lanes):
        """A crossing of this class to which cars of these lanes have come, without edits."""
        made = cls(rule)
        made.begun = first_moment(rule, lanes)
        return made

    @staticmethod
    def turned(rule):
        """The rule in which the lanes of each preference stand in the opposite order."""
        return tuple([preference[::-1] for preference in rule])

    def come(self, lane):
        """A car comes in this lane."""
        self.steps = with_edits(self, [("come", lane)])
        return len(self.steps)

    def go(self):
        """One car passes."""
        self.steps = with_edits(self, [("go",)])
        return len(self.steps)

    def change(self, rule):
        """The crossing is given another rule."""
        self.steps = with_edits(self, [("change", rule)])
        return len(self.steps)

    def come_all(self, *lanes):
        """A car comes in each of these lanes, in order."""
        self.steps = with_edits(self, [("come", lane) for lane in lanes])
        return len(self.steps)

    def go_until(self, car):
        """Cars pass until this one has passed."""
        self.steps = with_goes(self, car)
        return len(self.steps)

    def undo(self):
        """Revert the last edit that stands."""
        check_free(self)
        if len(self.steps) == 0:
            raise NothingToUndo()
        self.steps = self.steps[:-1]
        return len(self.steps)

    def current(self, *, version=None):
        """The rule."""
        return moment_at(self, version).chosen

    def row(self, *, version=None):
        """The tuple of the lanes of all cars that came."""
        return moment_at(self, version).came

    def waiting(self, *, version=None):
        """The ascending tuple of the waiting cars."""
        return waiting_cars(moment_at(self, version))

    def passed(self, *, version=None):
        """The tuple of the cars that passed, in the order in which they did."""
        return moment_at(self, version).gone

    def edits(self):
        """The tuple of the edits that stand."""
        return tuple([step.edit for step in self.steps])

    @property
    def cars(self):
        """The number of all cars that came."""
        return len(present(self).came)

    @property
    def length(self):
        """The number of the waiting cars."""
        return len(waiting_cars(present(self)))

    @property
    def previous(self):
        """The lane of the last car that passed, None if none did."""
        return previous_lane(present(self))

    @property
    def upcoming(self):
        """The car that passes next, None if none waits."""
        return upcoming_car(present(self))

    def word(self):
        """The letters of all arrivals and passings."""
        return present(self).letters

    def foresee(self, *, most=None):
        """Yield the cars that pass next if no other one comes, at most so many."""
        for car in cars_ahead(present(self))[:most]:
            yield car

    def attempt(self, batch, *, on_step=None):
        """Do all edits of the batch, or none of them if one fails or on_step raises an exception."""
        check_free(self)
        if not is_batch(batch):
            raise BadBatch()
        wanted = tuple(batch)
        kept = self.steps
        self.busy = True
        try:
            for index, edit in enumerate(wanted):
                try:
                    self.steps = with_edit(self, self.steps, edit)
                except PassError:
                    raise Rejected(index)
                if on_step is not None:
                    on_step(self)
            kept = self.steps
        finally:
            self.steps = kept
            self.busy = False
        return len(self.steps)

    def copy(self):
        """A crossing of the same class in the same state, which is not busy."""
        made = self.of(self.begun.chosen)
        made.begun = self.begun
        made.steps = self.steps
        made.allowed = self.allowed
        return made

    def __len__(self):
        return len(self.steps)

    def __eq__(self, other):
        return isinstance(other, Crossing) and looks_like(present(self), present(other))

    def __str__(self):
        return f"{sizes_text(self)}"

    def __call__(self, lane):
        return waiting_in(present(self), lane)

    def __contains__(self, x):
        return is_waiting(self, x)

    def __getitem__(self, at):
        return lane_at(self, at)

    def __bool__(self):
        return bool(len(waiting_cars(present(self))) > 0)

    def __iter__(self):
        raise TypeError("use foresee to go through the cars")


class WatchedCrossing(Crossing):
    """A crossing that keeps how long lanes are passed over, and can set a bound to it."""

    def __init__(self, rule, *, bound=None):
        super().__init__(rule)
        if bound is not None and not is_within(bound, 0, MAX_CARS):
            raise NoCount(bound)
        self.allowed = bound

    @classmethod
    def of(cls, rule, *lanes):
        """A crossing of this class, without a bound, to which cars of these lanes have come."""
        made = cls(rule)
        made.begun = first_moment(rule, lanes)
        return made

    @property
    def overs(self):
        """For each lane the greatest number of other cars that passed while one car was the first of it."""
        return overs_at(present(self))

    @property
    def bound(self):
        """The greatest number that overs may have, None if there is no bound."""
        return self.allowed

    def come(self, lane):
        """A car comes in this lane."""
        return super().come(lane)

    def go(self):
        """One car passes, if no lane is passed over by more cars than the bound allows."""
        return super().go()

    def change(self, rule):
        """The crossing is given another rule."""
        return super().change(rule)

    def come_all(self, *lanes):
        """A car comes in each of these lanes, in order."""
        return super().come_all(*lanes)

    def go_until(self, car):
        """Cars pass until this one has passed."""
        return super().go_until(car)

    def undo(self):
        """Revert the last edit that stands."""
        return super().undo()

    def current(self, *, version=None):
        """The rule."""
        return super().current(version=version)

    def row(self, *, version=None):
        """The tuple of the lanes of all cars that came."""
        return super().row(version=version)

    def waiting(self, *, version=None):
        """The ascending tuple of the waiting cars."""
        return super().waiting(version=version)

    def passed(self, *, version=None):
        """The tuple of the cars that passed, in the order in which they did."""
        return super().passed(version=version)

    def edits(self):
        """The tuple of the edits that stand."""
        return super().edits()

    @property
    def cars(self):
        """The number of all cars that came."""
        return len(present(self).came)

    @property
    def length(self):
        """The number of the waiting cars."""
        return len(waiting_cars(present(self)))

    @property
    def previous(self):
        """The lane of the last car that passed, None if none did."""
        return previous_lane(present(self))

    @property
    def upcoming(self):
        """The car that passes next, None if none waits."""
        return upcoming_car(present(self))

    def word(self):
        """The letters of all arrivals and passings."""
        return super().word()

    def foresee(self, *, most=None):
        """Yield the cars that pass next if no other one comes, at most so many."""
        for car in cars_ahead(present(self))[:most]:
            yield car

    def attempt(self, batch, *, on_step=None):
        """Do all edits of the batch, or none of them if one fails or on_step raises an exception."""
        return super().attempt(batch, on_step=on_step)

    def copy(self):
        """A crossing of the same class in the same state, with the same bound, which is not busy."""
        return super().copy()

    def __len__(self):
        return len(self.steps)

    def __eq__(self, other):
        return isinstance(other, Crossing) and looks_like(present(self), present(other))

    def __str__(self):
        return f"{sizes_text(self)}, passed over {numbers_text(overs_at(present(self)))}"

    def __call__(self, lane):
        return waiting_in(present(self), lane)

    def __contains__(self, x):
        return is_waiting(self, x)

    def __getitem__(self, at):
        return lane_at(self, at)

    def __bool__(self):
        return bool(len(waiting_cars(present(self))) > 0)

    def __iter__(self):
        raise TypeError("use foresee to go through the cars")

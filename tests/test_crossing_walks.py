"""Guarantee (e): whatever was done, undone, tried and interrupted, a crossing shows what its standing edits give."""

from lanerules.crossings import Crossing, WatchedCrossing
from lanerules.errors import NothingToUndo, Rejected
from tests.crossing_model import check_crossing, edits_error, goes_until, some_edit, some_lanes
from tests.listing import Draws
from tests.samples import ErrorCase


class Stopped(Exception):
    """Raised in the middle of a batch."""


class Walk:
    """A crossing, and beside it what it was created from and the edits that must stand."""

    def __init__(self, case, draws, kind, size):
        self.case, self.draws, self.kind = case, draws, kind
        self.rule = draws.rule(size)
        self.bound, self.lanes, self.edits = None, (), []
        if kind is WatchedCrossing and draws.below(2):
            self.bound = draws.below(5)
            self.crossing = kind(self.rule, bound=self.bound)
        else:
            self.lanes = draws.row(size, draws.below(20))
            self.crossing = kind.of(self.rule, *self.lanes)

    def error_of(self, wanted):
        return edits_error(self.rule, self.lanes, self.edits, wanted, self.bound)

    def check(self):
        check_crossing(self.case, self.crossing, self.rule, self.lanes, self.edits, self.bound, self.kind)

    def expect(self, wanted, call, *args):
        """The call does all of these edits, or raises the first error of one of them."""
        error = self.error_of(wanted)
        if error is not None:
            self.case.assert_error(error[1], call, *args)
            return
        self.edits = self.edits + wanted
        self.case.assert_same(call(*args), len(self.edits))

    def edit(self):
        name, *told = some_edit(self.draws, self.rule)
        self.expect([(name, *told)], getattr(self.crossing, name), *told)

    def come_all(self):
        lanes = some_lanes(self.draws, self.rule, self.draws.below(5))
        self.expect([("come", lane) for lane in lanes], self.crossing.come_all, *lanes)

    def go_until(self):
        car = self.draws.below(1 + self.crossing.cars + 1)
        wanted = goes_until(self.rule, self.lanes, self.edits, car)
        if isinstance(wanted, list):
            self.expect(wanted, self.crossing.go_until, car)
        else:
            self.case.assert_error(wanted, self.crossing.go_until, car)

    def undo(self):
        if self.edits:
            self.edits = self.edits[:-1]
            self.case.assert_same(self.crossing.undo(), len(self.edits))
        else:
            self.case.assert_error(NothingToUndo(), self.crossing.undo)

    def attempt(self):
        batch = [some_edit(self.draws, self.rule) for _ in range(self.draws.below(7))]
        error = self.error_of(batch)
        if error is not None:
            self.case.assert_error(Rejected(error[0]), self.crossing.attempt, batch)
        elif batch and self.draws.below(3) == 0:
            self.interrupt(batch, self.draws.below(len(batch)))
        else:
            self.edits = self.edits + batch
            self.case.assert_same(self.crossing.attempt(tuple(batch)), len(self.edits))

    def interrupt(self, batch, at):
        seen = []

        def on_step(crossing):
            seen.append(crossing.edits()[len(self.edits):])
            if len(seen) == at + 1:
                raise Stopped()

        with self.case.assertRaises(Stopped):
            self.crossing.attempt(batch, on_step=on_step)
        self.case.assertEqual(seen, [tuple(batch[:many]) for many in range(1, at + 2)])

    def replace_by_copy(self):
        left = self.crossing
        self.crossing = self.crossing.copy()
        left.attempt([("change", self.rule)] if len(left) < 60 else [])

    def go_on(self):
        steps = (self.edit, self.edit, self.edit, self.edit, self.come_all, self.go_until, self.undo, self.undo, self.attempt,
                 self.attempt, self.replace_by_copy)
        steps[self.draws.below(len(steps))]()


class TestWalks(ErrorCase):
    def walk(self, kind, seed, size, steps):
        draws = Draws(seed)
        walk = Walk(self, draws, kind, size)
        for _ in range(steps):
            walk.go_on()
        walk.check()
        return walk

    def test_checked_after_each_step(self):
        for kind in (Crossing, WatchedCrossing):
            for seed in range(24):
                draws = Draws(seed)
                walk = Walk(self, draws, kind, 1 + seed % 6)
                walk.check()
                for _ in range(12):
                    walk.go_on()
                    walk.check()

    def test_long_walks(self):
        longest = 0
        for kind in (Crossing, WatchedCrossing):
            for seed in range(30):
                walk = self.walk(kind, 100 + seed, 1 + seed % 6, 60)
                longest = max(longest, len(walk.edits))
        self.assertGreater(longest, 30)

    def test_undone_to_the_beginning(self):
        for kind in (Crossing, WatchedCrossing):
            for seed in range(6):
                walk = self.walk(kind, 200 + seed, 1 + seed, 30)
                while walk.edits:
                    walk.undo()
                walk.check()

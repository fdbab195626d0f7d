"""Desks: going forward and back in a run."""

from selfwritten.errors import BadPlan
from selfwritten.makers import Goer, fast_of, is_maker
from selfwritten.plans import check_plan
from selfwritten.runs import is_going
from selfwritten.widths import check_int
from selfwritten.worlds import check_word, check_world, with_cell

MOST_EVERY = 64


class Trial:
    """A block behind which everything at the desk is as it was."""

    def __init__(self, desk):
        self.desk = desk
        self.here = desk.here
        self.gone = desk.gone
        self.kept = desk.kept
        self.farthest = desk.farthest

    def __enter__(self):
        self.here = self.desk.here
        self.gone = self.desk.gone
        self.kept = list(self.desk.kept)
        self.farthest = self.desk.farthest
        return self.desk

    def __exit__(self, kind, value, trace):
        desk = self.desk
        desk.here = self.here
        desk.gone = self.gone
        desk.kept = self.kept
        desk.farthest = self.farthest


class Desk:
    """A desk that stands at one world of a run."""

    def __init__(self, machine, world, *, every=8, fast=None):
        check_world(machine, world)
        check_int(every, 1, MOST_EVERY, "every")
        if not is_maker(fast):
            raise BadPlan(-1)
        self.machine = machine
        self.every = every
        self._maker = None if fast is None else _copied(machine, fast, world)
        self.here = world
        self.gone = 0
        self.farthest = world
        # The kept worlds, their moments ascending.
        self.kept = [world]
        self._first = world.moment

    def kept_moments(self):
        """The moments of the kept worlds, ascending."""
        return tuple([world.moment for world in self.kept])

    def stand_at(self, moment):
        """Stands at the moment; returns here."""
        check_int(moment, self._first, None, "moment")
        if moment > self.farthest.moment:
            self._go_farther(moment)
        else:
            start = self._start_for(moment)
            self.here = self._gone_to(start, moment)
            self.gone += self.here.moment - start.moment
        return self.here

    def back(self, steps):
        """Stands so many moments ahead of here; returns here."""
        check_int(steps, 0, self.here.moment - self._first, "steps")
        return self.stand_at(self.here.moment - steps)

    def put_cell(self, x, word):
        """Sets a cell; returns here."""
        self.here = self._with_word(x, word)
        self.kept = self.kept[:self._many_kept(self.here.moment - 1)] + [self.here]
        self.farthest = self.here
        return self.here

    def trying(self):
        """A trial of the desk."""
        return Trial(self)

    def tried(self, moment, x, word):
        """What standing at the moment would return behind setting the cell."""
        check_int(moment, self._first, None, "moment")
        changed = self._with_word(x, word)
        start = changed if moment >= changed.moment else self._start_for(moment)
        return self._gone_to(start, moment)

    def _with_word(self, x, word):
        """The world here, but with this word in cell x."""
        check_word(self.here, x, "x")
        check_word(self.here, word, "word")
        return with_cell(self.here, x, word)

    def _many_kept(self, moment):
        """How many kept worlds are not above the moment."""
        low, high = 0, len(self.kept)
        while low < high:
            middle = (low + high) // 2
            if self.kept[middle].moment <= moment:
                low = middle + 1
            else:
                high = middle
        return low

    def _start_for(self, moment):
        """The world from which the desk goes on to a moment that is not above the farthest."""
        kept = self.kept[self._many_kept(moment) - 1]
        return self.here if kept.moment <= self.here.moment <= moment else kept

    def _gone_to(self, start, moment):
        """The world reached by the maker from a world."""
        return Goer(self.machine, self._maker, start).go_to(moment)

    def _go_farther(self, moment):
        """Goes on from the farthest world to a moment above it."""
        goer = Goer(self.machine, self._maker, self.farthest)
        more = []
        while is_going(goer.world, moment):
            stop = (goer.world.moment // self.every + 1) * self.every
            goer.go_to(min(stop, moment))
            if goer.world.moment % self.every == 0:
                more.append(goer.world)
        self.gone += goer.world.moment - self.farthest.moment
        self.kept.extend(more)
        self.here = goer.world
        self.farthest = goer.world


def _copied(machine, maker, world):
    """The maker with copies of its rows, after all checks."""
    fast = fast_of(machine, maker, world)
    return (maker[0], fast.store.size, fast.store.picks, check_plan(maker[3]))

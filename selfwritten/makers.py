"""Makers: by what machine a run goes on."""

from selfwritten.fasts import Fast
from selfwritten.pairs import Pair
from selfwritten.runs import run_on
from selfwritten.widths import is_row


def is_maker(maker):
    """Whether this is None, or a row of four entries whose first is a pair."""
    if maker is None:
        return True
    return is_row(maker) and len(maker) == 4 and isinstance(maker[0], Pair)


def fast_of(machine, maker, world):
    """The new fast machine that a maker stands for."""
    pair, size, picks, plan = maker
    return Fast(machine, pair, world, size=size, picks=picks, plan=plan)


class Goer:
    """Goes on by a maker from a world that was checked."""

    def __init__(self, machine, maker, world):
        self.machine = machine
        self.world = world
        self._fast = None if maker is None else fast_of(machine, maker, world)

    def go_to(self, moment):
        """Goes on to the moment; returns the world reached."""
        if self._fast is None:
            self.world = run_on(self.machine, self.world, moment)
        else:
            self.world = self._fast.run(moment)
        return self.world

"""Runs that meet, and steps that have to do with a cell."""

from selfwritten.closing import closed_by
from selfwritten.errors import BadWorld
from selfwritten.fetching import fetched
from selfwritten.happenings import happened
from selfwritten.ports import answered
from selfwritten.runs import dozed, idle_steps, is_going, leapt
from selfwritten.steps import begun, fulfilled, stepped, stepping
from selfwritten.widths import check_int, ones
from selfwritten.worlds import check_world


def meeting(machine, one, other, moment):
    """The first moment at which the runs of both worlds are equal, or None."""
    check_world(machine, one)
    check_world(machine, other)
    if one.moment != other.moment:
        raise BadWorld("moment")
    check_int(moment, 0, None, "moment")
    shown, noted = 0, 0
    while one.moment <= moment:
        shown = _alike(one.shown, other.shown, shown)
        noted = _alike(one.noted, other.noted, noted)
        if not _may_meet(one, other, shown, noted):
            return None
        if len(one.shown) == len(other.shown) and len(one.noted) == len(other.noted) and _rest(one) == _rest(other):
            return one.moment
        if not is_going(one, moment) or not is_going(other, moment):
            return None
        one, other = _next_worlds(machine, one, other, moment)
    return None


def _rest(world):
    """The facts of a world without what was shown and noted."""
    return world.changed(shown=(), noted=()).facts()


def _alike(one, other, first):
    """How many entries at the beginning of both rows are equal; as many as `first` are so."""
    at = first
    while at < min(len(one), len(other)) and one[at] == other[at]:
        at += 1
    return at


def _may_meet(one, other, shown, noted):
    """Whether the runs may still show and note the same; so many entries of both are equal.

    What was shown or noted stays, and what comes has a moment that is not past.
    So an entry that only one has must lie at a moment to come.
    """
    for alike, ours, theirs in ((shown, one.shown, other.shown), (noted, one.noted, other.noted)):
        if alike < min(len(ours), len(theirs)):
            return False
        ahead = ours[alike:alike + 1] + theirs[alike:alike + 1]
        if ahead and ahead[0][0] < one.moment:
            return False
    return True


def _next_worlds(machine, one, other, moment):
    """The worlds of both runs one step later, or behind as many idle steps as both can leap over."""
    many = min(idle_steps(machine, one, moment), idle_steps(machine, other, moment))
    if many > 0:
        return leapt(machine, one, many), leapt(machine, other, many)
    _, one = stepped(machine, one)
    _, other = stepped(machine, other)
    return one, other


def part_of(machine, world, moment, x):
    """The moment ahead of the run's first step that has to do with cell x, or None."""
    check_world(machine, world)
    check_int(moment, 0, None, "moment")
    check_int(x, 0, ones(machine.word), "x")
    while is_going(world, moment):
        many = idle_steps(machine, world, moment)
        if many > 1:
            world = dozed(world, many - 1)
        start = world.moment
        met, world = _met(machine, world, x)
        if met:
            return start
    return None


def _met(machine, world, x):
    """Whether the world's step has to do with cell x, and the world behind it."""
    q = stepping(machine, world)
    kind, world = begun(world, q)
    watch = Watch(machine, world, q, x)
    if kind is None:
        instruction, looks, fault = fetched(machine, world, world.processors[q].place)
        watch.met = any([look[:2] == ("cell", x) for look in looks])
        _, world = fulfilled(watch, instruction, fault)
    after = closed_by(machine, world)
    return watch.met or _met_in_events(machine.due(after.moment), world, x), after


def _met_in_events(events, world, x):
    """Whether one of the events, happening in this world, sets cell x or settles a write to it."""
    for event in events:
        if event[:2] == ("cell", x):
            return True
        if event[0] == "drain" and [address for address, _ in world.processors[event[1]].buffer[:1]] == [x]:
            return True
        world = happened(world, event)
    return False


class Watch:
    """An asker that sees whether the asks have to do with cell x."""

    def __init__(self, machine, world, q, x):
        self.machine = machine
        self.world = world
        self.q = q
        self.x = x
        self.met = False

    def answer(self, ask):
        before = self._waiting()
        word, self.world = answered(self.machine, self.world, self.q, ask)
        if ask[0] == "read":
            met = ask[1] == self.x and word is not None and self.x not in before
        else:
            if ask[0] == "write" and word is not None:
                before = before + [ask[1]]
            met = self.x in before[:len(before) - len(self._waiting())]
        self.met = self.met or met
        return word

    def _waiting(self):
        """The addresses of the waiting writes, the oldest first."""
        return [address for address, _ in self.world.processors[self.q].buffer]

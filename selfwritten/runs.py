"""Runs of the plain machine."""

from selfwritten.closing import closed_by
from selfwritten.steps import stepped
from selfwritten.widths import check_int
from selfwritten.worlds import check_world, is_over


def run(machine, world, moment):
    """The last world of the run to the moment."""
    _check(machine, world, moment)
    while is_going(world, moment):
        _, world = stepped(machine, world)
    return world


def trail(machine, world, moment):
    """Yields the worlds of the run."""
    _check(machine, world, moment)
    yield world
    while is_going(world, moment):
        _, world = stepped(machine, world)
        yield world


def kinds(machine, world, moment):
    """The kinds of the run's steps."""
    _check(machine, world, moment)
    found = []
    while is_going(world, moment):
        kind, world = stepped(machine, world)
        found.append(kind)
    return tuple(found)


def leap(machine, world, moment):
    """The world behind as many idle steps as can be made at once."""
    _check(machine, world, moment)
    many = idle_steps(machine, world, moment)
    return world if many == 0 else leapt(machine, world, many)


def run_leaping(machine, world, moment):
    """The last world of the run, made with leaps."""
    _check(machine, world, moment)
    return run_on(machine, world, moment)


def run_on(machine, world, moment):
    """As run_leaping, for arguments that were checked."""
    while is_going(world, moment):
        many = idle_steps(machine, world, moment)
        if many > 0:
            world = leapt(machine, world, many)
        else:
            _, world = stepped(machine, world)
    return world


def _check(machine, world, moment):
    check_world(machine, world)
    check_int(moment, 0, None, "moment")


def is_going(world, moment):
    """Whether a run to the moment makes a step of the world."""
    return world.moment < moment and not is_over(world)


def idle_steps(machine, world, moment):
    """How many idle steps a leap makes at once."""
    own = world.processors[machine.turns[world.turn][0]]
    if world.moment >= moment or own.status != "resting" or own.lines:
        return 0
    many = min(world.left, moment - world.moment)
    due = machine.next_due(world.moment + 1)
    if due is not None:
        many = min(many, due - world.moment)
    for other in world.processors:
        if other.alarm is not None and other.alarm > world.moment:
            many = min(many, other.alarm - world.moment)
    return many


def dozed(world, many):
    """The world behind idle steps that are not the last ones of a leap."""
    # Nothing but the moment and the turn's rest changes in them.
    return world.changed(moment=world.moment + many, left=world.left - many)


def leapt(machine, world, many):
    """The world behind a leap of so many steps."""
    return closed_by(machine, dozed(world, many - 1))

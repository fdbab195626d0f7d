"""How often the instruction of each place is done."""

from selfwritten.runs import idle_steps, is_going, leapt
from selfwritten.steps import stepped
from selfwritten.widths import check_int
from selfwritten.worlds import check_world


def done_counts(fast):
    """Pairs of a place and how often the fast machine has done the instruction there."""
    return _pairs(fast.counts)


def _pairs(counts):
    return tuple([(place, counts[place]) for place in sorted(counts)])


def plain_counts(machine, world, moment):
    """The same pairs for the plain machine's run to the moment."""
    check_world(machine, world)
    check_int(moment, 0, None, "moment")
    counts = {}
    while is_going(world, moment):
        many = idle_steps(machine, world, moment)
        if many > 0:
            world = leapt(machine, world, many)
            continue
        place = world.processors[machine.turns[world.turn][0]].place
        kind, world = stepped(machine, world)
        if kind == "done":
            counts[place] = counts.get(place, 0) + 1
    return _pairs(counts)

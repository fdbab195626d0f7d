"""Closing a step, and what a processor does with signals and faults."""

from selfwritten.errors import BadWorld
from selfwritten.happenings import happened, with_signal
from selfwritten.widths import check_int
from selfwritten.worlds import check_q, check_world

ALARM_SIGNAL = 1
LAST_CAUSE = 15


def closed(machine, world):
    """The world behind the closing of a step."""
    check_world(machine, world)
    return closed_by(machine, world)


def closed_by(machine, world):
    """As closed, for arguments that were checked."""
    world = _turned(machine, world)
    events = machine.due(world.moment)
    for event in events:
        world = happened(world, event)
    for q in range(machine.processors):
        own = world.processors[q]
        if own.alarm == world.moment:
            world = with_signal(world.with_processor(q, own.changed(alarm=None)), q, ALARM_SIGNAL)
    return world


def _turned(machine, world):
    """The world one moment later, in the turn that it is then."""
    turn, left = world.turn, world.left - 1
    if left <= 0 or world.processors[machine.turns[turn][0]].ended():
        turn, left = _next_turn(machine, world)
    return world.changed(moment=world.moment + 1, turn=turn, left=left)


def _next_turn(machine, world):
    """The first turn behind the present one whose processor has not ended, and its count."""
    many = len(machine.turns)
    for ahead in range(1, many + 1):
        turn = (world.turn + ahead) % many
        q, count = machine.turns[turn]
        if not world.processors[q].ended():
            return turn, count
    return world.turn, 0


def is_ready(own):
    """Whether the processor can be led to its vector."""
    return own.mode == 0 and own.vector is not None


def can_take(world, q):
    """Whether q can take a signal."""
    check_q(world, q)
    own = world.processors[q]
    return is_ready(own) and not own.ended() and len(own.lines) > 0


def taken(world, q, cause):
    """The world in which q has taken with this cause."""
    check_q(world, q)
    check_int(cause, 1, LAST_CAUSE, "cause")
    own = world.processors[q]
    if own.vector is None:
        raise BadWorld("vector")
    return _noted(world, q, cause).with_processor(
        q, own.changed(saved=own.place, cause=cause, mode=1, place=own.vector)
    )


def faulted(world, q, cause):
    """The world in which q has met this fault."""
    check_q(world, q)
    check_int(cause, 1, LAST_CAUSE, "cause")
    own = world.processors[q]
    if is_ready(own):
        return taken(world, q, cause)
    return _noted(world, q, cause).with_processor(q, own.changed(cause=cause, status="fallen"))


def _noted(world, q, cause):
    """The world with a note that q has met this cause where it stands."""
    note = (world.moment, q, cause, world.processors[q].place)
    return world.changed(noted=world.noted + (note,))

"""Steps of the plain machine."""

from selfwritten.closing import can_take, closed_by, faulted, is_ready, taken
from selfwritten.deeds import handed_over
from selfwritten.errors import BadWorld, IsOver
from selfwritten.fetching import fetched
from selfwritten.ports import answered
from selfwritten.worlds import check_world, is_over


class Asker:
    """Answers the asks of a processor in a world, which they change."""

    def __init__(self, machine, world, q):
        self.machine = machine
        self.world = world
        self.q = q

    def answer(self, ask):
        word, self.world = answered(self.machine, self.world, self.q, ask)
        return word


def step(machine, world):
    """The kind of the world's step, and the world behind it."""
    check_world(machine, world)
    if is_over(world):
        raise IsOver()
    return stepped(machine, world)


def stepped(machine, world):
    """As step, for a world that was checked and is not over."""
    q = stepping(machine, world)
    kind, world = begun(world, q)
    if kind is None:
        asker = Asker(machine, world, q)
        instruction, _, fault = fetched(machine, world, world.processors[q].place)
        kind, world = fulfilled(asker, instruction, fault)
    return kind, closed_by(machine, world)


def stepping(machine, world):
    """The processor that makes the step of a world that is not over."""
    q = machine.turns[world.turn][0]
    if world.processors[q].ended():
        raise BadWorld("world")
    return q


def begun(world, q):
    """The kind of a step without an instruction and the world ahead of its closing.

    If q goes on to an instruction, the kind is None, and q is on in the world.
    """
    own = world.processors[q]
    if own.status == "resting":
        if not own.lines:
            return "idle", world
        own = own.changed(status="on")
        world = world.with_processor(q, own)
    if not can_take(world, q):
        return None, world
    return "taken", taken(world.with_processor(q, own.changed(lines=own.lines[1:])), q, own.lines[0])


def fulfilled(asker, instruction, fault):
    """The kind of a step with what was fetched, and the world ahead of its closing."""
    if fault is None:
        fault = carried_out(asker, instruction)
        if fault is None:
            return "done", asker.world
    kind = "fault" if is_ready(asker.world.processors[asker.q]) else "fall"
    return kind, faulted(asker.world, asker.q, fault)


def carried_out(asker, instruction):
    """The cause that the instruction hands over; without one the asker's world is that behind it."""
    own = asker.world.processors[asker.q]
    cause, _, place, regs = handed_over(asker.machine.book, instruction, own.place, own.regs, asker)
    if cause is None:
        own = asker.world.processors[asker.q]
        asker.world = asker.world.with_processor(asker.q, own.changed(place=place, regs=regs))
    return cause

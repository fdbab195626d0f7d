"""Asks of processors, and how a world answers them."""

from selfwritten.errors import BadWorld
from selfwritten.happenings import with_right, with_signal
from selfwritten.memory import READ, drained, has_right, seen_by, written
from selfwritten.widths import is_int, is_word, ones
from selfwritten.worlds import check_q, check_world

# One sign for each entry: x a word, p a port of in, q a port of out.
ENTRIES = {
    "read": "x",
    "write": "xx",
    "in": "p",
    "out": "qx",
}

LAST_IN = 5
LAST_OUT = 9
CALL_SIGNAL = 3


def asked(machine, world, q, ask):
    """The answer to an ask of q, and the world behind it."""
    check_world(machine, world)
    check_q(world, q)
    if not is_ask(machine.word, ask):
        raise BadWorld("ask")
    return answered(machine, world, q, ask)


def is_ask(word, ask):
    """Whether this is an ask that a world answers, with words of this width."""
    if not isinstance(ask, tuple) or len(ask) == 0:
        return False
    if not isinstance(ask[0], str) or ask[0] not in ENTRIES:
        return False
    signs = ENTRIES[ask[0]]
    if len(ask) != len(signs) + 1:
        return False
    return all([_is_entry(word, sign, entry) for sign, entry in zip(signs, ask[1:])])


def _is_entry(word, sign, entry):
    if sign == "x":
        return is_word(entry, word)
    return is_int(entry) and 0 <= entry <= (LAST_IN if sign == "p" else LAST_OUT)


def answered(machine, world, q, ask):
    """As asked, for arguments that were checked."""
    name = ask[0]
    if name == "read":
        if not has_right(machine, world, ask[1], READ):
            return None, world
        return seen_by(world, q, ask[1]), world
    if name == "write":
        after = written(machine, world, q, ask[1], ask[2])
        return (None, world) if after is None else (0, after)
    if name == "in":
        return came_in(machine, world, q, ask[1])
    return 0, gone_out(machine, world, q, ask[1], ask[2])


def came_in(machine, world, q, port):
    """What comes in for q by this port, and the world behind it."""
    own = world.processors[q]
    if port == 0:
        if not world.typed:
            return 0, world
        return world.typed[0], world.changed(typed=world.typed[1:])
    if port == 1:
        return world.moment & ones(machine.word), world
    if port == 2:
        return q, world
    if port == 3:
        return own.saved, world.with_processor(q, own.changed(mode=0))
    return (own.cause if port == 4 else own.kept), world


def gone_out(machine, world, q, port, x):
    """The world behind the word that q puts out by this port."""
    own = world.processors[q]
    if port == 0:
        return world.changed(shown=world.shown + ((world.moment, q, x),))
    if port == 4:
        return with_right(world, own.page, x & 7)
    if port == 6:
        return drained(world, q)
    if port == 8:
        world = drained(world, q)
        return world.with_processor(q, world.processors[q].changed(status="stopped"))
    if port == 9:
        return with_signal(world, x % machine.processors, CALL_SIGNAL)
    return world.with_processor(q, _set_by(own, port, x, world.moment))


def _set_by(own, port, x, moment):
    """The processor behind a port that changes nothing but the processor itself."""
    if port == 1:
        return own.changed(alarm=moment + x if x else None)
    if port == 2:
        return own.changed(vector=x)
    if port == 3:
        return own.changed(page=x & 7)
    if port == 5:
        return own.changed(kept=x)
    return own.changed(status="resting")

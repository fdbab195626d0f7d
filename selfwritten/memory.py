"""Cells, waiting writes, and the rights of pages."""

from selfwritten.widths import check_int, ones
from selfwritten.worlds import check_q, check_word, check_world, with_cell

READ = 4
WRITE = 2


def page_of(machine, x):
    """The page of an address."""
    check_int(x, 0, ones(machine.word), "x")
    return x >> (machine.word - 3)


def has_right(machine, world, x, right):
    """Whether the page of x may be used so."""
    return world.rights[page_of(machine, x)] & right != 0


def seen(machine, world, q, x):
    """The word that q sees at x."""
    check_world(machine, world)
    check_q(world, q)
    check_word(world, x, "x")
    return seen_by(world, q, x)


def seen_by(world, q, x):
    """As seen, for arguments that were checked."""
    for address, word in reversed(world.processors[q].buffer):
        if address == x:
            return word
    return world.cells[x]


def settle_one(world, q):
    """The world behind the settling of the oldest waiting write of q, if one waits."""
    check_q(world, q)
    own = world.processors[q]
    if not own.buffer:
        return world
    x, word = own.buffer[0]
    return with_cell(world.with_processor(q, own.changed(buffer=own.buffer[1:])), x, word)


def drained(world, q):
    """The world behind the settling of all waiting writes of q."""
    check_q(world, q)
    while world.processors[q].buffer:
        world = settle_one(world, q)
    return world


def read_by(machine, world, q, x):
    """The answer to a read of x by q."""
    word = seen(machine, world, q, x)
    return word if has_right(machine, world, x, READ) else None


def write_by(machine, world, q, x, y):
    """The world behind a write of y to x by q, or None if the page may not be written."""
    check_world(machine, world)
    check_q(world, q)
    check_word(world, x, "x")
    check_word(world, y, "y")
    return written(machine, world, q, x, y)


def written(machine, world, q, x, y):
    """As write_by, for arguments that were checked."""
    if not has_right(machine, world, x, WRITE):
        return None
    own = world.processors[q]
    world = world.with_processor(q, own.changed(buffer=own.buffer + ((x, y),)))
    while len(world.processors[q].buffer) > machine.depth:
        world = settle_one(world, q)
    return world

"""Events, signals, and first worlds."""

from selfwritten.errors import BadMachine, BadWorld, BadWords
from selfwritten.events import ALL_RIGHTS, LAST_PAGE, LAST_SIGNAL, is_event
from selfwritten.memory import settle_one
from selfwritten.widths import check_int, check_length, check_words, is_int, is_row, is_word
from selfwritten.worlds import Processor, World, check_q, check_world, with_cell

KEY_SIGNAL = 2


def raised(world, q, line):
    """The world in which this signal waits at q."""
    check_q(world, q)
    check_int(line, 1, LAST_SIGNAL, "line")
    return with_signal(world, q, line)


def with_signal(world, q, line):
    """As raised, for arguments that were checked."""
    own = world.processors[q]
    if line in own.lines:
        return world
    return world.with_processor(q, own.changed(lines=tuple(sorted(own.lines + (line,)))))


def happen(machine, world, event):
    """The world in which the event has happened."""
    check_world(machine, world)
    if not is_event(machine.word, machine.processors, event):
        raise BadMachine("events")
    return happened(world, event)


def happened(world, event):
    """As happen, for an event of a machine of this world."""
    name = event[0]
    if name == "key":
        return with_signal(world.changed(typed=world.typed + (event[1],)), 0, KEY_SIGNAL)
    if name == "line":
        return with_signal(world, event[1], event[2])
    if name == "cell":
        return with_cell(world, event[1], event[2])
    if name == "rights":
        return with_right(world, event[1], event[2])
    return settle_one(world, event[1])


def with_right(world, page, right):
    """The world in which the page has this right."""
    return world.changed(rights=world.rights[:page] + (right,) + world.rights[page + 1:])


def start(machine, image, places, *, rights=(7, 7, 7, 7, 7, 7, 7, 7), vectors=(None, None, None)):
    """The world of moment 0, behind its events."""
    cells = _cells(machine, image)
    places = check_words(places, machine.word, machine.processors)
    _check_rights(rights)
    _check_vectors(machine, vectors)
    processors = [_first(machine, place, vector) for place, vector in zip(places, vectors)]
    world = World(
        moment=0,
        cells=cells,
        rights=tuple(rights),
        turn=0,
        left=machine.turns[0][1],
        typed=(),
        shown=(),
        noted=(),
        processors=tuple(processors),
    )
    for event in machine.due(0):
        world = happened(world, event)
    return world


def _cells(machine, image):
    """The words of the image, and 0 in all cells behind them."""
    check_length(image, None)
    many = 1 << machine.word
    if len(image) > many:
        raise BadWords(-1)
    words = check_words(image, machine.word, None)
    return words + (0,) * (many - len(words))


def _check_rights(rights):
    if not is_row(rights) or len(rights) != LAST_PAGE + 1:
        raise BadWorld("rights")
    if not all([is_int(right) and 0 <= right <= ALL_RIGHTS for right in rights]):
        raise BadWorld("rights")


def _check_vectors(machine, vectors):
    if not is_row(vectors) or len(vectors) < machine.processors:
        raise BadWorld("vectors")
    if not all([vector is None or is_word(vector, machine.word) for vector in vectors]):
        raise BadWorld("vectors")


def _first(machine, place, vector):
    """A processor that has done nothing yet."""
    return Processor(
        place=place,
        regs=(0,) * machine.book.registers,
        buffer=(),
        lines=(),
        alarm=None,
        vector=vector,
        mode=0,
        saved=0,
        cause=0,
        kept=0,
        page=0,
        status="on",
    )

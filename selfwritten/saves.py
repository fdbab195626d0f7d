"""Worlds as texts."""

from selfwritten.errors import BadLine
from selfwritten.tokens import finished_lines, number_of, written_line
from selfwritten.worlds import Processor, World

MOST_NUMBER = 1000000000
MOST_PROCESSORS = 3
MOST_REGISTERS = 4
LAST_RIGHT = 7
LAST_CAUSE = 15
SIZES = (16, 32, 64, 128, 256)
STATES = ("on", "resting", "stopped", "fallen")

# The lines of a world ahead of those of shown and noted.
HEAD = 5


def saved(world):
    """The text of a world."""
    rows = [
        ("moment", world.moment),
        ("cells",) + world.cells,
        ("rights",) + world.rights,
        ("turn", world.turn, world.left),
        ("typed",) + world.typed,
    ]
    rows.extend([("shown",) + entry for entry in world.shown])
    rows.extend([("noted",) + entry for entry in world.noted])
    for q, own in enumerate(world.processors):
        rows.extend(_processor_rows(q, own))
    return "".join([written_line(row) for row in rows])


def _processor_rows(q, own):
    """The entries of the thirteen lines of a processor."""
    return [
        ("processor", q),
        ("place", own.place),
        ("regs",) + own.regs,
        ("buffer",) + tuple([entry for pair in own.buffer for entry in pair]),
        ("lines",) + own.lines,
        ("alarm", "none" if own.alarm is None else own.alarm),
        ("vector", "none" if own.vector is None else own.vector),
        ("mode", own.mode),
        ("back", own.saved),
        ("cause", own.cause),
        ("kept", own.kept),
        ("page", own.page),
        ("status", own.status),
    ]


class Reader:
    """The lines of a text, read one after another; each wrong one raises."""

    def __init__(self, text):
        rows, rest = finished_lines(text) if isinstance(text, str) else ([], "")
        self.rows = rows
        self.rest = rest
        self.at = 0

    def comes(self, name):
        """Whether the next line has this name."""
        return self.at < len(self.rows) and self.rows[self.at][0] == name

    def require(self, right):
        """Raises with the number of the present line unless it is right."""
        if not right:
            raise BadLine(self.at)

    def read_line(self, name):
        """The tokens behind the name of the next line, which stays the present one."""
        self.require(self.comes(name))
        return self.rows[self.at][1:]

    def read_words(self, name, most):
        """The numbers of the next line, each at most `most`; the line stays the present one."""
        found = [number_of(token) for token in self.read_line(name)]
        self.require(all([number is not None and number <= most for number in found]))
        return tuple(found)

    def read_row(self, name, most):
        """As words, and the line is done."""
        found = self.read_words(name, most)
        self.at += 1
        return found

    def read_numbers(self, name, bounds):
        """The numbers of the next line, as many as there are bounds and none above its own."""
        found = self.read_words(name, max(bounds))
        self.require(len(found) == len(bounds))
        self.require(all([number <= most for number, most in zip(found, bounds)]))
        self.at += 1
        return found

    def read_number(self, name, most):
        """The single number of the next line."""
        return self.read_numbers(name, (most,))[0]

    def read_or_none(self, name, most):
        """As number, or None for the token none."""
        if self.read_line(name) == ["none"]:
            self.at += 1
            return None
        return self.read_number(name, most)

    def finish(self):
        """Raises if anything is left."""
        self.require(self.at == len(self.rows) and self.rest == "")


def world_of(text):
    """The world that a text writes."""
    reader = Reader(text)
    moment = reader.read_number("moment", MOST_NUMBER)
    cells = _cells(reader)
    last = len(cells) - 1
    rights = reader.read_numbers("rights", (LAST_RIGHT,) * 8)
    turn, left = reader.read_numbers("turn", (MOST_NUMBER, MOST_NUMBER))
    typed = reader.read_row("typed", last)
    shown = _entries(reader, "shown", (MOST_NUMBER, MOST_PROCESSORS - 1, last))
    noted = _entries(reader, "noted", (MOST_NUMBER, MOST_PROCESSORS - 1, LAST_CAUSE, last))
    processors = [_processor(reader, last, 0, None)]
    while len(processors) < MOST_PROCESSORS and reader.comes("processor"):
        processors.append(_processor(reader, last, len(processors), len(processors[0].regs)))
    reader.finish()
    for at, entry in enumerate(shown + noted):
        if entry[1] >= len(processors):
            raise BadLine(HEAD + at)
    return World(
        moment=moment,
        cells=cells,
        rights=rights,
        turn=turn,
        left=left,
        typed=typed,
        shown=shown,
        noted=noted,
        processors=tuple(processors),
    )


def _cells(reader):
    many = len(reader.read_line("cells"))
    reader.require(many in SIZES)
    return reader.read_row("cells", many - 1)


def _entries(reader, name, bounds):
    """The numbers of all lines of this name that come next."""
    found = []
    while reader.comes(name):
        found.append(reader.read_numbers(name, bounds))
    return tuple(found)


def _processor(reader, last, q, registers):
    """The processor q of the next lines; the first one tells how many registers all have."""
    reader.require(reader.read_words("processor", MOST_PROCESSORS) == (q,))
    reader.at += 1
    return Processor(
        place=reader.read_number("place", last),
        regs=_regs(reader, last, registers),
        buffer=_buffer(reader, last),
        lines=_signals(reader),
        alarm=reader.read_or_none("alarm", MOST_NUMBER),
        vector=reader.read_or_none("vector", last),
        mode=reader.read_number("mode", 1),
        saved=reader.read_number("back", last),
        cause=reader.read_number("cause", LAST_CAUSE),
        kept=reader.read_number("kept", last),
        page=reader.read_number("page", LAST_RIGHT),
        status=_status(reader),
    )


def _regs(reader, last, registers):
    many = len(reader.read_line("regs"))
    reader.require(1 <= many <= MOST_REGISTERS if registers is None else many == registers)
    return reader.read_row("regs", last)


def _buffer(reader, last):
    """The pairs of address and word that wait."""
    found = reader.read_words("buffer", last)
    reader.require(len(found) % 2 == 0)
    reader.at += 1
    return tuple([(found[at], found[at + 1]) for at in range(0, len(found), 2)])


def _signals(reader):
    """The waiting signals, which ascend."""
    found = reader.read_words("lines", LAST_RIGHT)
    reader.require(all([one < other for one, other in zip((0,) + found, found)]))
    reader.at += 1
    return found


def _status(reader):
    tokens = reader.read_line("status")
    reader.require(len(tokens) == 1 and tokens[0] in STATES)
    reader.at += 1
    return tokens[0]

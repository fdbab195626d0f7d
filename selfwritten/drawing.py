"""Drawing the items of a sketch one after another."""

from selfwritten.deeds import REFUSED
from selfwritten.lines import ANSWERED, line_parts


class Drawing:
    """The items drawn so far; first is the unknown of the first answer."""

    def __init__(self, pool, word, first):
        self.pool = pool
        self.word = word
        self.drawn = []
        self.following = first

    def draw_leave(self, test, hand):
        self.drawn.append(("leave", test, hand))

    def draw_ask(self, name, port, parts, hand):
        """Draws an ask; returns the part of its answer, or None."""
        answer = None
        if name in ANSWERED:
            answer = self.pool.unknown(self.following)
            self.following += 1
        self.drawn.append(("ask", name, port, parts, hand, answer))
        return answer

    def draw_end(self, hand):
        self.drawn.append(("end", hand))

    def answers_ahead(self, many):
        """The parts of the answers to the next reads and ins."""
        return [self.pool.unknown(self.following + at) for at in range(many)]


def drawn_form(drawing, form, registers, numbers, here, after, state):
    """Draws the lines of a form; returns the place and the registers handed over, as parts.

    registers has the numbers of the register letters, numbers the parts of the
    other letters, here and after are the parts for these lines; state is how
    many instructions were done, and the place and registers of the beginning.
    """
    _, _, regs = state
    answers = drawing.answers_ahead(len([line for line in form.lines if line[0] in ANSWERED]))
    parts = line_parts(drawing.pool, drawing.word, form.lines, registers, numbers, regs, here, after, answers)
    place, left = after, list(regs)
    for line in form.lines:
        if line[0] == "put":
            left[registers.get(line[1], line[1])] = parts[line[2]]
        elif line[0] == "goto":
            place = parts[line[1]]
        else:
            _draw_line(drawing, line, parts, state)
    return place, tuple(left)


def _draw_line(drawing, line, parts, state):
    """Draws the leave or the ask of a line, if it has one."""
    name = line[0]
    if name == "must":
        drawing.draw_leave(parts[line[1]], (line[2],) + state)
    elif name == "in":
        drawing.draw_ask(name, line[1], (), (None,) + state)
    elif name == "out":
        drawing.draw_ask(name, line[1], (parts[line[2]],), (None,) + state)
    elif name in ("read", "write"):
        drawing.draw_ask(name, None, tuple([parts[number] for number in line[1:]]), (REFUSED[name],) + state)

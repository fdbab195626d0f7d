"""Sketches: all runs of a road or a house row, described over the parts of a pool."""

from selfwritten.deeds import REFUSED, Answers, check_answers
from selfwritten.drawing import Drawing, drawn_form
from selfwritten.errors import TooMany
from selfwritten.lines import ANSWERED, letters_told, registers_of
from selfwritten.operations import OPS
from selfwritten.orders import order_part
from selfwritten.pools import LAST_UNKNOWN
from selfwritten.rows import boundary_of, check_row, late_of
from selfwritten.widths import check_int, check_words, is_row, ones


class Sketch:
    """A sketch; it never changes, but its pool may get more parts."""

    def __init__(self, pool, word, registers, items):
        self.pool = pool
        self.word = word
        self.registers = registers
        self.chain = _frozen(items)


def _frozen(value):
    """The value with tuples in place of all rows."""
    return tuple([_frozen(entry) for entry in value]) if is_row(value) else value


def _check_unknowns(registers, names):
    """Raises if the registers, reads and ins are too many."""
    if registers + len([name for name in names if name in ANSWERED]) > LAST_UNKNOWN + 1:
        raise TooMany("unknowns")


def sketch_of_road(pool, book, road):
    """The sketch of a road."""
    forms = [book.form_named(name) for name, _ in road.instructions]
    _check_unknowns(book.registers, [line[0] for form in forms for line in form.lines])
    drawing = Drawing(pool, book.word, book.registers)
    place = pool.num(road.entry)
    regs = tuple([pool.unknown(j) for j in range(book.registers)])
    for i, (at, instruction) in enumerate(road):
        if i > 0:
            if forms[i - 1].goto is not None:
                drawing.draw_leave(pool.apply("same", place, pool.num(at)), (None, i, place, regs))
            drawing.draw_ask("tick", None, (), (None, i, place, regs))
        place, regs = _drawn_instruction(drawing, forms[i], instruction[1], at, (i, place, regs))
    drawing.draw_end((None, len(road), place, regs))
    return Sketch(pool, book.word, book.registers, drawing.drawn)


def _drawn_instruction(drawing, form, numbers, at, state):
    """Draws an instruction at a place; returns the place and the registers handed over."""
    pool = drawing.pool
    told = letters_told(form, numbers)
    parts = {letter: pool.num(told[letter]) for letter in told}
    here = pool.num(at)
    after = pool.num((at + form.size) & ones(drawing.word))
    return drawn_form(drawing, form, registers_of(form, numbers), parts, here, after, state)


def sketch_of_row(pool, pair, row, place):
    """The sketch of a house row entered at a place."""
    check_row(pair, row)
    check_int(place, 0, ones(pair.book.word), "place")
    registers = pair.book.registers
    _check_unknowns(registers, [step[0] for step in row.steps])
    drawing = Drawing(pool, pair.book.word, registers)
    held = Held(pool, pair, place)
    for at, step in enumerate(row.steps):
        if step[0] in ("order", "load", "save"):
            held.moved(step)
        else:
            _drawn_step(drawing, held, row, at)
    return Sketch(pool, pair.book.word, registers, drawing.drawn)


class Held:
    """The parts that the house registers and the slots of a row hold by now."""

    def __init__(self, pool, pair, place):
        self.pool = pool
        self.house = pair.house
        self.zero = pool.num(0)
        self.words = [self.zero] * pair.house.registers
        self.slots = {j: pool.unknown(j) for j in range(pair.book.registers)}
        self.slots[pair.book.registers] = pool.num(place)

    def moved(self, step):
        """Does an order, a load or a save."""
        if step[0] == "load":
            self.words[step[1]] = self.slots.get(step[2], self.zero)
        elif step[0] == "save":
            self.slots[step[1]] = self.words[step[2]]
        else:
            _, name, dest, x, y, n = step
            _, letters, _ = self.house.order_named(name)
            number = self.pool.num(n) if "n" in letters else None
            d = self.words[dest]
            self.words[dest] = order_part(self.pool, self.house, name, d, self.words[x], self.words[y], number)

    def hand(self, row, index):
        """The parts of the place and the registers that a hand gives now."""
        found = {}
        for at in late_of(row, index):
            entry = row.late[at]
            if entry[0] in OPS:
                found[at] = self.pool.apply(entry[0], found[entry[1]], found[entry[2]])
            elif entry[0] == "slot":
                found[at] = self.slots.get(entry[1], self.zero)
            else:
                found[at] = self.words[entry[1]] if entry[0] == "reg" else self.pool.num(entry[1])
        parts = tuple([found[at] for at in row.hands[index]])
        return parts[0], parts[1:]


def _drawn_step(drawing, held, row, at):
    """Draws a step at which the row can be left."""
    step = row.steps[at]
    name = step[0]
    boundary = boundary_of(row, at)
    cause = step[2] if name == "must" else REFUSED.get(name)
    hand = (cause, boundary) + held.hand(row, boundary)
    if name == "must":
        drawing.draw_leave(held.words[step[1]], hand)
    elif name == "keep":
        drawing.draw_leave(held.pool.apply("same", held.words[step[1]], held.pool.num(step[2])), hand)
    elif name == "read":
        held.words[step[1]] = drawing.draw_ask(name, None, (held.words[step[2]],), hand)
    elif name == "in":
        held.words[step[1]] = drawing.draw_ask(name, step[2], (), hand)
    elif name == "write":
        drawing.draw_ask(name, None, (held.words[step[1]], held.words[step[2]]), hand)
    elif name == "out":
        drawing.draw_ask(name, step[1], (held.words[step[2]],), hand)
    elif name == "tick":
        drawing.draw_ask(name, None, (), hand)
    else:
        drawing.draw_end(hand)


def play(sketch, regs, answers):
    """The run of a sketch: the asks made, and what is handed over."""
    words = list(check_words(regs, sketch.word, sketch.registers))
    asker = Answers(check_answers(sketch.word, answers))
    for item in list(sketch.chain):
        if item[0] == "leave":
            if sketch.pool.value(item[1], words) == 0:
                return tuple(asker.asks), handed_words(sketch.pool, item[2], words)
        elif item[0] == "ask":
            _, name, port, parts, hand, answer = item
            told = asker.answer(ask_words(sketch.pool, name, port, parts, words))
            if told is None:
                return tuple(asker.asks), handed_words(sketch.pool, hand, words)
            if answer is not None:
                words.append(told)
        else:
            return tuple(asker.asks), handed_words(sketch.pool, item[1], words)


def ask_words(pool, name, port, parts, words):
    """The ask, when the unknowns have these words."""
    head = (name,) if port is None else (name, port)
    return head + tuple([pool.value(part, words) for part in parts])


def handed_words(pool, hand, words):
    """What a hand hands over, when the unknowns have these words."""
    cause, done, place, regs = hand
    return (cause, done, pool.value(place, words), tuple([pool.value(part, words) for part in regs]))

"""Template rows: house rows made of roads line by line."""

from selfwritten.lines import is_value, letters_told
from selfwritten.operations import OPS
from selfwritten.roads import next_place
from selfwritten.rows import Row
from selfwritten.rules import rule_steps
from selfwritten.widths import check_int, ones

# The house registers that stand for the operands of rules.
PLACES = {"x": 0, "y": 1, "d": 2, "u": 3, "v": 4}


def base(pair, road, i):
    """How many steps of the template row are done at boundary i."""
    check_int(i, 0, len(road), "i")
    total = 0
    for at, (name, _) in enumerate(road.instructions[:i]):
        total += pair.cost(name) + 1
        if at + 1 < len(road) and pair.book.form_named(name).goto is not None:
            total += 2
    return total


def template(pair, road):
    """The template row of a road."""
    steps = []
    for at in range(len(road)):
        if at > 0:
            steps.append(("tick",))
        steps.extend(_instruction_steps(pair, road, at))
    steps.append(("end",))
    late, hands = _late_and_hands(pair.book, road)
    return Row(steps, late, hands)


def _instruction_steps(pair, road, at):
    """The steps of the instruction of this number, without the tick ahead of it."""
    name, numbers = road.instructions[at]
    form = pair.book.form_named(name)
    lines = Lines(pair, form, numbers, road.places[at])
    steps = []
    for number in range(len(form.lines)):
        steps.extend(lines.steps_of(number))
    for line in form.lines:
        if line[0] == "put":
            steps.extend([("load", 0, lines.slots[line[2]]), ("save", lines.told(line[1]), 0)])
        elif line[0] == "goto":
            steps.extend([("load", 0, lines.slots[line[1]]), ("save", pair.book.registers, 0)])
    if form.goto is not None and at + 1 < len(road):
        steps.extend([("load", 0, pair.book.registers), ("keep", 0, road.places[at + 1])])
    return steps


class Lines:
    """The lines of an instruction at a place, and the slots of their words."""

    def __init__(self, pair, form, numbers, place):
        self.pair = pair
        self.form = form
        self.letters = letters_told(form, numbers)
        self.place = place
        values = [number for number, line in enumerate(form.lines) if is_value(line)]
        self.slots = {number: pair.book.registers + 1 + j for j, number in enumerate(values)}

    def told(self, entry):
        """The number that a letter stands for, or the number itself."""
        return self.letters[entry] if isinstance(entry, str) else entry

    def steps_of(self, number):
        """The steps of a line; those of put and goto stand behind all lines."""
        line = self.form.lines[number]
        name = line[0]
        if name in ("put", "goto"):
            return []
        if name == "get":
            return [("load", 0, self.told(line[1])), ("save", self.slots[number], 0)]
        if name in ("num", "here", "next"):
            return self._ruled("num", self._number(line)) + [("save", self.slots[number], 2)]
        if name in OPS:
            return self._loads(line[1:]) + self._ruled(name, 0) + [("save", self.slots[number], 2)]
        if name == "in":
            return [("in", 2, line[1]), ("save", self.slots[number], 2)]
        if name == "read":
            return self._loads(line[1:]) + [("read", 2, 0), ("save", self.slots[number], 2)]
        if name == "must":
            return self._loads(line[1:2]) + [("must", 0, line[2])]
        if name == "write":
            return self._loads(line[1:]) + [("write", 0, 1)]
        return self._loads(line[2:]) + [("out", line[1], 0)]

    def _loads(self, numbers):
        """The words of these lines into the house registers from 0 on."""
        return [("load", at, self.slots[number]) for at, number in enumerate(numbers)]

    def _ruled(self, op, number):
        """The orders of the rule of an operation, or of num for this number."""
        house = self.pair.house
        return rule_steps(house, self.pair.book.word, self.pair.rule_for(op), dict(PLACES), number)

    def _number(self, line):
        """The word of a num, here or next."""
        if line[0] == "num":
            return self.told(line[1])
        if line[0] == "here":
            return self.place
        return (self.place + self.form.size) & ones(self.pair.book.word)


def _late_and_hands(book, road):
    """The late words and the hands of a template row."""
    many = book.registers
    late = [("slot", s) for s in range(many + 1)]
    regs = tuple(range(many))
    hands = []
    place = road.entry
    for at in range(len(road) + 1):
        if place is None:
            hands.append((many,) + regs)
        else:
            hands.append((len(late),) + regs)
            late.append(("num", place))
        if at < len(road):
            place = next_place(book, road.places[at], road.instructions[at])
    return late, hands

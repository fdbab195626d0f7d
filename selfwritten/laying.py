"""Laying middle rows as house rows."""

from selfwritten.middle import lines_named
from selfwritten.operations import OPS
from selfwritten.passes import late_lines, now_lines
from selfwritten.rows import Row
from selfwritten.rules import rule_steps
from selfwritten.widths import ones

# Lines whose words have slots of their own.
SLOTTED = ("num", "read", "in")


def laid(pair, middle):
    """The house row of a middle row."""
    laying = Laying(pair, middle)
    for number in list(now_lines(middle)):
        if middle.lines[number][0] not in ("get", "num"):
            laying.lay_line(number)
    late, places = _late_words(pair, middle, laying)
    hands = [[places[number] for number in mark] for mark in middle.marks]
    return Row(laying.steps, late, hands)


def _slots(middle, registers):
    """A dict from each get, num, op, read and in line to its slot."""
    found = {}
    following = registers + 1
    for at, line in enumerate(middle.lines):
        if line[0] == "get":
            found[at] = line[1]
        elif line[0] in SLOTTED or line[0] in OPS:
            found[at] = following
            following += 1
    return found


def _held(middle):
    """A dict whose keys are the lines that a mark names, directly or through late lines."""
    late = {number: True for number in late_lines(middle)}
    found = {number: True for mark in middle.marks for number in mark}
    # Late lines name earlier ones only, so going backwards once finds all.
    for at in reversed(range(len(middle.lines))):
        if at in found and at in late:
            found.update({number: True for number in middle.lines[at][1:]})
    return found


def _naming(middle):
    """For each line the ascending list of the now lines that name it."""
    found = [[] for _ in middle.lines]
    for number in now_lines(middle):
        for named in lines_named(middle.lines[number]):
            found[named].append(number)
    return found


def _names(rule, operand):
    """Whether a row of the rule has this operand."""
    return any([operand in row[1:] for row in rule[1]])


class Laying:
    """The steps laid so far, and what the house registers have."""

    def __init__(self, pair, middle):
        self.pair = pair
        self.lines = middle.lines
        self.slots = _slots(middle, pair.book.registers)
        self.held = _held(middle)
        self.naming = _naming(middle)
        self.steps = []
        self.saved = {}
        # For each house register its line, or None if it is free.
        self.has = [None] * pair.house.registers
        self.busy = {}
        self.at = 0

    def lay_line(self, number):
        """Lays a now line that is no get and no num."""
        line = self.lines[number]
        self.at = number
        named = lines_named(line)
        self.busy = {reg: True for reg, own in enumerate(self.has) if own in named}
        regs = [self.bring(one) for one in list(named)]
        name = line[0]
        if name in OPS:
            self.keep_line(number, self.lay_rule(name, regs, 0))
        elif name in ("read", "in"):
            reg = self.take_reg()
            self.steps.append((name, reg, regs[0] if name == "read" else line[1]))
            self.keep_line(number, reg)
        elif name == "write":
            self.steps.append((name, regs[0], regs[1]))
        elif name == "out":
            self.steps.append((name, line[1], regs[0]))
        elif name in ("must", "keep"):
            self.steps.append((name, regs[0], line[2]))
        else:
            self.steps.append(line)

    def keep_line(self, number, reg):
        """The house register has this line from now on; if the line is held, it is saved."""
        self.has[reg] = number
        if number in self.held:
            self.save_line(number, reg)

    def save_line(self, number, reg):
        self.steps.append(("save", self.slots[number], reg))
        self.saved[number] = True

    def take_reg(self):
        """A house register that is free from now on, and busy."""
        idle = [reg for reg in range(len(self.has)) if reg not in self.busy]
        reg = self._easy(idle)
        if reg is None:
            reg = self._furthest(idle)
            line = self.has[reg]
            if self.lines[line][0] != "get" and line not in self.saved:
                self.save_line(line, reg)
        self.has[reg] = None
        self.busy[reg] = True
        return reg

    def _easy(self, idle):
        """The lowest of these registers that is free or has a line that is not named later, or None."""
        for reg in idle:
            if self.has[reg] is None or self._next_naming(self.has[reg]) is None:
                return reg
        return None

    def _furthest(self, idle):
        """The lowest of these registers whose line is named next by the furthest line."""
        ways = [self._next_naming(self.has[reg]) for reg in idle]
        return idle[ways.index(max(ways))]

    def _next_naming(self, line):
        """The next now line behind the present one that names a line, or None."""
        for number in self.naming[line]:
            if number > self.at:
                return number
        return None

    def lay_rule(self, op, regs, number):
        """Lays the rule of an operation, or of num for a number; returns the register of d."""
        rule = self.pair.rule_for(op)
        places = dict(zip(("x", "y"), regs))
        places["d"] = self.take_reg()
        extra = [operand for operand in ("u", "v") if _names(rule, operand)]
        for operand in extra:
            places[operand] = self.take_reg()
        self.steps.extend(rule_steps(self.pair.house, self.pair.book.word, rule, places, number))
        for operand in extra:
            self.has[places[operand]] = None
            del self.busy[places[operand]]
        return places["d"]

    def bring(self, number):
        """The house register that has a line, into which it is brought if there is none."""
        if number in self.has:
            return self.has.index(number)
        line = self.lines[number]
        if line[0] == "get" or number in self.saved:
            reg = self.take_reg()
            self.steps.append(("load", reg, self.slots[number]))
        else:
            reg = self.lay_rule("num", [], line[1])
        self.has[reg] = number
        return reg


def _late_words(pair, middle, laying):
    """The late words, and a dict from each held line to the index of its word."""
    late_ops = {number: True for number in late_lines(middle)}
    most = ones(pair.book.word)
    late, places = [], {}
    for number in sorted(laying.held):
        line = middle.lines[number]
        if number in late_ops:
            late.append((line[0], places[line[1]], places[line[2]]))
            if line[0] in ("add", "sub") and pair.house.width > pair.book.word:
                late.extend([("num", most), ("and", len(late) - 1, len(late))])
        else:
            late.append(line if line[0] == "num" else ("slot", laying.slots[number]))
        places[number] = len(late) - 1
    return late, places

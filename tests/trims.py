"""Middle rows, passes and laid rows of the tests, written from [136] to [147] alone."""

from helpers import OPS, operation
from rowing import form_of

ASKS = ("read", "write", "in", "out", "tick")


def named(line):
    """The numbers of the lines that a line names."""
    kind = line[0]
    if kind in OPS or kind == "write":
        return [line[1], line[2]]
    if kind in ("read", "must", "keep"):
        return [line[1]]
    return [line[2]] if kind == "out" else []


def with_names(line, name):
    """The line with other numbers, name(i) for i."""
    kind = line[0]
    if kind in OPS or kind == "write":
        return (kind, name(line[1]), name(line[2]))
    if kind == "read":
        return (kind, name(line[1]))
    if kind in ("must", "keep"):
        return (kind, name(line[1]), line[2])
    return (kind, line[1], name(line[2])) if kind == "out" else line


def own_middle(book, road):
    """The lines and marks of a road ([137])."""
    size = 2 ** book.word
    lines = [("get", r) for r in range(book.registers)] + [("num", road.places[0])]
    marks = [(book.registers, *range(book.registers))]
    for i, (place, (name, numbers)) in enumerate(zip(road.places, road.instructions)):
        form = form_of(book, name)
        told = {letter: number for (letter, _), number in zip(form.letters, numbers)}
        stands, new, goto = {}, list(marks[-1][1:]), None
        for number, (kind, *rest) in enumerate(form.lines):
            if kind == "get":
                stands[number] = marks[-1][1 + told.get(rest[0], rest[0])]
                continue
            if kind == "put":
                new[told.get(rest[0], rest[0])] = stands[rest[1]]
                continue
            if kind == "goto":
                goto = stands[rest[0]]
                continue
            stands[number] = len(lines)
            if kind == "num":
                lines.append(("num", told.get(rest[0], rest[0])))
            elif kind in ("here", "next"):
                lines.append(("num", (place + (form.size if kind == "next" else 0)) % size))
            else:
                lines.append(with_names((kind, *rest), lambda number: stands[number]))
        if goto is None:
            goto = len(lines)
            lines.append(("num", (place + form.size) % size))
        elif i + 1 < len(road.places):
            lines.append(("keep", goto, road.places[i + 1]))
        marks.append((goto, *new))
        lines.append(("tick",) if i + 1 < len(road.places) else ("end",))
    return lines, marks


def middle_run(lines, marks, word, regs, answers):
    """The run of a middle row against answers ([138])."""
    words, asks, left, ticks = {}, [], list(answers), 0

    def hand(boundary):
        found = [words[number] for number in marks[boundary]]
        return found[0], tuple(found[1:])

    for at, line in enumerate(lines):
        kind = line[0]
        if kind in ASKS:
            port = line[1:2] if kind in ("in", "out") else ()
            asks.append((kind, *port, *[words[number] for number in named(line)]))
            answer = left.pop(0) if left else None
            if answer is None:
                boundary = ticks + (kind == "tick")
                return tuple(asks), ({"read": 10, "write": 11}.get(kind), boundary, *hand(boundary))
            words[at] = answer
            ticks += kind == "tick"
        elif kind == "must" and words[line[1]] == 0:
            return tuple(asks), (line[2], ticks, *hand(ticks))
        elif kind == "end" or (kind == "keep" and words[line[1]] != line[2]):
            return tuple(asks), (None, ticks + 1, *hand(ticks + 1))
        elif kind == "get":
            words[at] = regs[line[1]]
        elif kind == "num":
            words[at] = line[1]
        elif kind in OPS:
            words[at] = operation(kind, words[line[1]], words[line[2]], word)


def short(kind, x, y, twice, most):
    """What [10] makes of an operation: ("num", v), ("side", 0 or 1), or None; x and y are words or None."""
    table = {
        "add": [(x == 0, 1), (y == 0, 0)], "or": [(x == 0, 1), (y == 0, 0), (twice, 0)],
        "xor": [(x == 0, 1), (y == 0, 0), (twice, "0")], "sub": [(y == 0, 0), (twice, "0")],
        "less": [(y == 0, "0"), (twice, "0")], "same": [(twice, "1")],
        "and": [(x == 0 or y == 0, "0"), (x == most, 1), (y == most, 0), (twice, 0)],
    }
    for holds, result in table[kind]:
        if holds:
            return ("num", int(result)) if isinstance(result, str) else ("side", result)
    return None


def own_known(lines, marks, word):
    name, new = {}, []
    for at, line in enumerate(lines):
        name[at] = at
        line = with_names(line, lambda number: name[number])
        if line[0] in OPS:
            x, y = [new[number][1] if new[number][0] == "num" else None for number in line[1:]]
            if x is not None and y is not None:
                line = ("num", operation(line[0], x, y, word))
            else:
                found = short(line[0], x, y, line[1] == line[2], 2 ** word - 1)
                if found and found[0] == "num":
                    line = found
                elif found:
                    name[at] = line[1 + found[1]]
        new.append(line)
    return new, [tuple(name[number] for number in mark) for mark in marks]


def left_out(lines, marks, gone):
    """The row without the lines of these numbers."""
    stay = [at for at in range(len(lines)) if at not in gone]
    return ([with_names(lines[at], stay.index) for at in stay],
            [tuple(stay.index(number) for number in mark) for mark in marks])


def own_spared(lines, marks, word):
    gone = set()
    for at, line in enumerate(lines):
        if line[0] in ("must", "keep") and lines[line[1]][0] == "num":
            known = lines[line[1]][1]
            if (line[0] == "must" and known != 0) or (line[0] == "keep" and known == line[2]):
                gone.add(at)
    return left_out(lines, marks, gone)


def own_once(lines, marks, word):
    name, new = {}, []
    for at, line in enumerate(lines):
        new.append(with_names(line, lambda number: name[number]))
        twins = [number for number in range(at) if new[number] == new[at]]
        name[at] = twins[0] if twins and (new[at][0] in OPS or new[at][0] == "num") else at
    return new, [tuple(name[number] for number in mark) for mark in marks]


def through_ops(lines, numbers):
    """All lines that are named by op lines, from these on."""
    found = set(numbers)
    while True:
        more = found | {number for at in found if lines[at][0] in OPS for number in named(lines[at])}
        if more == found:
            return found
        found = more


def wanted_by_asks(lines):
    return through_ops(lines, [number for line in lines if line[0] not in OPS for number in named(line)])


def own_dropped(lines, marks, word):
    wanted = wanted_by_asks(lines) | through_ops(lines, [number for mark in marks for number in mark])
    idle = {at for at, line in enumerate(lines) if line[0] in OPS or line[0] == "num"}
    return left_out(lines, marks, idle - wanted)


def own_tidy(lines, marks, word):
    while True:
        before = (list(lines), list(marks))
        for one in (own_known, own_spared, own_once, own_dropped):
            lines, marks = one(lines, marks, word)
        if (list(lines), list(marks)) == before:
            return lines, marks


def own_plain(lines, marks, word):
    while True:
        before = (list(lines), list(marks))
        for one in (own_once, own_dropped):
            lines, marks = one(lines, marks, word)
        if (list(lines), list(marks)) == before:
            return lines, marks


def own_now(lines):
    wanted = wanted_by_asks(lines)
    return [at for at, line in enumerate(lines)
            if at in wanted or line[0] in (*ASKS, "must", "keep", "end")]


def own_late(lines):
    wanted = wanted_by_asks(lines)
    return [at for at, line in enumerate(lines) if line[0] in OPS and at not in wanted]


class NoNum(Exception):
    """A num line is to be brought, and there is no rule of num."""


class OwnLaying:
    """The laid row of lines and marks ([142] to [146])."""

    def __init__(self, pair, lines, marks):
        self.house, self.k, self.n = pair.house, pair.book.word, pair.book.registers
        self.lines, self.rules = lines, {}
        for op, rows in pair.house.rules:
            if op not in self.rules or len(rows) < len(self.rules[op]):
                self.rules[op] = rows
        self.now, self.lates = own_now(lines), own_late(lines)
        self.slot, free = {}, self.n + 1
        for at, line in enumerate(lines):
            if line[0] == "get":
                self.slot[at] = line[1]
            elif line[0] in OPS or line[0] in ("num", "read", "in"):
                self.slot[at] = free
                free += 1
        self.held = {number for mark in marks for number in mark}
        while True:
            more = self.held | {number for at in self.held if at in self.lates for number in lines[at][1:]}
            if more == self.held:
                break
            self.held = more
        self.steps, self.saved, self.line_in, self.busy, self.at = [], set(), {}, set(), None
        for at in self.now:
            if lines[at][0] not in ("get", "num"):
                self.lay(at)
        self.late, self.index = self.late_words()
        self.hands = [tuple(self.index[number] for number in mark) for mark in marks]

    def next_use(self, line):
        uses = [at for at in self.now if at > self.at and line in named(self.lines[at])]
        return min(uses) if uses else None

    def take(self):
        free = [reg for reg in range(self.house.registers) if reg not in self.busy]
        easy = [reg for reg in free if reg not in self.line_in or self.next_use(self.line_in[reg]) is None]
        if easy:
            reg = easy[0]
        else:
            far = max(self.next_use(self.line_in[reg]) for reg in free)
            reg = [reg for reg in free if self.next_use(self.line_in[reg]) == far][0]
            line = self.line_in[reg]
            if self.lines[line][0] != "get" and line not in self.saved:
                self.steps.append(("save", self.slot[line], reg))
                self.saved.add(line)
        self.line_in.pop(reg, None)
        self.busy.add(reg)
        return reg

    def rule(self, op, x, y, number):
        if op not in self.rules:
            raise NoNum
        rows = self.rules[op]
        regs = {"x": x, "y": y, "d": self.take()}
        for operand in "uv":
            if [row for row in rows if operand in row[1:]]:
                regs[operand] = self.take()
        for name, *operands in rows:
            letters = [own for own in self.house.orders if own[0] == name][0][1]
            told = dict(zip(letters, operands))
            n = told.get("n", "0")
            n = {"n": number, "ones": 2 ** self.k - 1}.get(n, n)
            self.steps.append(("order", name, regs[told["d"]], regs[told["x"]] if "x" in told else 0,
                               regs[told["y"]] if "y" in told else 0, int(n)))
        for operand in "uv":
            if operand in regs:
                self.line_in.pop(regs[operand], None)
                self.busy.discard(regs[operand])
        return regs["d"]

    def bring(self, line):
        for reg, own in self.line_in.items():
            if own == line:
                return reg
        if self.lines[line][0] == "get" or line in self.saved:
            reg = self.take()
            self.steps.append(("load", reg, self.slot[line]))
        else:
            reg = self.rule("num", None, None, self.lines[line][1])
        self.line_in[reg] = line
        return reg

    def lay(self, at):
        line = self.lines[at]
        kind = line[0]
        self.at = at
        self.busy = {reg for reg, own in self.line_in.items() if own in named(line)}
        regs = [self.bring(number) for number in named(line)]
        if kind in OPS or kind in ("read", "in"):
            if kind in OPS:
                reg = self.rule(kind, *regs, None)
            else:
                reg = self.take()
                self.steps.append((kind, reg, regs[0] if kind == "read" else line[1]))
            self.line_in[reg] = at
            if at in self.held:
                self.steps.append(("save", self.slot[at], reg))
                self.saved.add(at)
        elif kind == "write":
            self.steps.append((kind, *regs))
        elif kind == "out":
            self.steps.append((kind, line[1], regs[0]))
        elif kind in ("must", "keep"):
            self.steps.append((kind, regs[0], line[2]))
        else:
            self.steps.append((kind,))

    def late_words(self):
        late, index = [], {}
        for at in sorted(self.held):
            line = self.lines[at]
            if at in self.lates:
                late.append((line[0], index[line[1]], index[line[2]]))
                if line[0] in ("add", "sub") and self.house.width > self.k:
                    late.append(("num", 2 ** self.k - 1))
                    late.append(("and", len(late) - 2, len(late) - 1))
            elif line[0] == "num":
                late.append(line)
            else:
                late.append(("slot", self.slot[at]))
            index[at] = len(late) - 1
        return late, index

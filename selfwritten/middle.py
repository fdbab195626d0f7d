"""Middle rows: roads as rows of lines over all their instructions."""

from selfwritten.deeds import REFUSED, Answers, check_answers
from selfwritten.lines import letters_told
from selfwritten.operations import OPS, op_word
from selfwritten.roads import next_place
from selfwritten.widths import check_words, ones


class Middle:
    """A middle row; it never changes."""

    def __init__(self, lines, marks):
        self.lines = tuple([tuple(line) for line in lines])
        self.marks = tuple([tuple(mark) for mark in marks])

    def __eq__(self, other):
        return isinstance(other, Middle) and self.lines == other.lines and self.marks == other.marks


def lines_named(line):
    """The numbers of the lines that a line names, in order."""
    name = line[0]
    if name in OPS or name in ("write", "read"):
        return line[1:]
    if name in ("must", "keep"):
        return line[1:2]
    return line[2:] if name == "out" else ()


def renamed(line, names):
    """The line with names[i] in place of each line i that it names."""
    named = tuple([names[number] for number in lines_named(line)])
    if line[0] in ("must", "keep"):
        return line[:1] + named + line[2:]
    if line[0] == "out":
        return line[:2] + named
    return line[:1] + named if named else line


def middle_of(book, road):
    """The middle row of a road."""
    lines = [("get", number) for number in range(book.registers)]
    lines.append(("num", road.entry))
    marks = [(book.registers,) + tuple(range(book.registers))]
    for at in range(len(road)):
        marks.append(_added(book, road, at, lines, marks[at]))
        lines.append(("tick",) if at + 1 < len(road) else ("end",))
    return Middle(lines, marks)


def _added(book, road, at, lines, mark):
    """Puts the lines of the instruction of this number to the lines; returns the mark behind it."""
    name, numbers = road.instructions[at]
    form = book.form_named(name)
    letters = letters_told(form, numbers)
    after = (road.places[at] + form.size) & ones(book.word)
    words = {"here": road.places[at], "next": after}
    regs = list(mark[1:])
    place = None
    # For each line of the form the line that stands for it.
    names = []
    for line in list(form.lines):
        stands = None
        if line[0] == "get":
            stands = mark[1 + letters.get(line[1], line[1])]
        elif line[0] == "put":
            regs[letters.get(line[1], line[1])] = names[line[2]]
        elif line[0] == "goto":
            place = names[line[1]]
        else:
            stands = len(lines)
            lines.append(_line_made(line, letters, words, names))
        names.append(stands)
    if place is None:
        place = len(lines)
        lines.append(("num", next_place(book, road.places[at], road.instructions[at])))
    elif at + 1 < len(road):
        lines.append(("keep", place, road.places[at + 1]))
    return (place,) + tuple(regs)


def _line_made(line, letters, words, names):
    """The line of a middle row that a line of a form makes."""
    if line[0] == "num":
        return ("num", letters.get(line[1], line[1]))
    if line[0] in words:
        return ("num", words[line[0]])
    return renamed(line, names)


def run_middle(middle, word, regs, answers):
    """The run of a middle row: the asks made, and what is handed over."""
    regs = check_words(regs, word, len(middle.marks[0]) - 1)
    asker = Answers(check_answers(word, answers))
    words = []
    boundary = 0
    for line in list(middle.lines):
        told = [words[number] for number in lines_named(line)]
        ask = _ask(line, told)
        answer = None if ask is None else asker.answer(ask)
        if _leaves(line, told, ask, answer):
            if line[0] in ("tick", "keep", "end"):
                boundary += 1
            cause = line[2] if line[0] == "must" else REFUSED.get(line[0])
            found = [words[number] for number in middle.marks[boundary]]
            return tuple(asker.asks), (cause, boundary, found[0], tuple(found[1:]))
        if line[0] == "tick":
            boundary += 1
        words.append(_word(line, told, word, regs, answer))


def _ask(line, told):
    """The ask that a line makes with these words, or None."""
    if line[0] in ("in", "out"):
        return line[:2] + tuple(told)
    return line[:1] + tuple(told) if line[0] in ("read", "write", "tick") else None


def _leaves(line, told, ask, answer):
    """Whether the row is left at this line."""
    if line[0] == "must":
        return told[0] == 0
    if line[0] == "keep":
        return told[0] != line[2]
    return line[0] == "end" or (ask is not None and answer is None)


def _word(line, told, word, regs, answer):
    """The word of a line; that of a line without one is not looked at."""
    if line[0] == "get":
        return regs[line[1]]
    if line[0] == "num":
        return line[1]
    return op_word(line[0], told[0], told[1], word) if line[0] in OPS else answer

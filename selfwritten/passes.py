"""Passes: other middle rows that have the same runs."""

from selfwritten.middle import Middle, lines_named, renamed
from selfwritten.operations import OPS, op_word, shortened
from selfwritten.widths import ones

# Lines whose words the run of a row shows, or goes by.
NAMING = ("read", "must", "write", "out", "keep")

# Lines that only make a word.
MAKING = ("get", "num")


def known(middle, word):
    """Words that are known and operations that are shortened, put in."""
    lines, names = [], []
    for at, line in enumerate(middle.lines):
        line, name = _known_line(renamed(line, names), lines, at, word)
        lines.append(line)
        names.append(name)
    return Middle(lines, _marks(middle, names))


def _known_line(line, lines, at, word):
    """The line of this number as it is known to be, and the number by which it is named."""
    if line[0] not in OPS:
        return line, at
    name, one, other = line
    first, second = [lines[number][1] if lines[number][0] == "num" else None for number in (one, other)]
    if first is not None and second is not None:
        return ("num", op_word(name, first, second, word)), at
    short = shortened(name, first, second, one == other, ones(word))
    if short in ("zero", "unit"):
        return ("num", 0 if short == "zero" else 1), at
    if short is None:
        return line, at
    return line, one if short == "one" else other


def _marks(middle, names):
    """The marks, with new names of their lines."""
    return [[names[number] for number in mark] for mark in middle.marks]


def spared(middle, word):
    """Without the musts and keeps that never leave."""
    return _without(middle, [at for at, line in enumerate(middle.lines) if _is_sure(middle, line)])


def _is_sure(middle, line):
    """Whether this is a must or a keep that goes on whatever the registers and answers are."""
    if line[0] not in ("must", "keep"):
        return False
    named = middle.lines[line[1]]
    if named[0] != "num":
        return False
    return named[1] == line[2] if line[0] == "keep" else named[1] != 0


def _without(middle, numbers):
    """The middle row without the lines of these numbers, the others numbered anew."""
    names, stay = {}, []
    gone = {number: True for number in numbers}
    for at, line in enumerate(middle.lines):
        if at not in gone:
            names[at] = len(stay)
            stay.append(line)
    return Middle([renamed(line, names) for line in stay], _marks(middle, names))


def once(middle, word):
    """Each num and op line is named by the first line that is equal to it."""
    lines, names = [], []
    firsts = {}
    for at, line in enumerate(middle.lines):
        line = renamed(line, names)
        lines.append(line)
        names.append(firsts.setdefault(line, at) if line[0] == "num" or line[0] in OPS else at)
    return Middle(lines, _marks(middle, names))


def dropped(middle, word):
    """Without the num and op lines that nobody needs."""
    needed = reached_lines(middle, _asked_lines(middle) + [number for mark in middle.marks for number in mark])
    makers = [at for at, line in enumerate(middle.lines) if line[0] == "num" or line[0] in OPS]
    return _without(middle, [at for at in makers if at not in needed])


def _asked_lines(middle):
    """The numbers of the lines that a read, must, write, out or keep names."""
    return [number for line in middle.lines if line[0] in NAMING for number in lines_named(line)]


def reached_lines(middle, numbers):
    """A dict whose keys are these lines and all lines that they name through op lines."""
    found = {number: True for number in numbers}
    waiting = list(found)
    while waiting:
        line = middle.lines[waiting.pop()]
        if line[0] in OPS:
            for number in line[1:]:
                if number not in found:
                    found[number] = True
                    waiting.append(number)
    return found


def tidy(middle, word):
    """All four passes, again and again until nothing changes."""
    after = dropped(once(spared(known(middle, word), word), word), word)
    while after != middle:
        middle = after
        after = dropped(once(spared(known(middle, word), word), word), word)
    return middle


def plainly(middle, word):
    """The passes once and dropped, again and again until nothing changes."""
    after = dropped(once(middle, word), word)
    while after != middle:
        middle = after
        after = dropped(once(middle, word), word)
    return middle


def now_lines(middle):
    """The numbers of the lines that are done while the row runs."""
    needed = reached_lines(middle, _asked_lines(middle))
    lines = list(enumerate(middle.lines))
    return tuple([at for at, line in lines if at in needed or (line[0] not in MAKING and line[0] not in OPS)])


def late_lines(middle):
    """The numbers of the op lines that are reckoned when the row is left."""
    needed = reached_lines(middle, _asked_lines(middle))
    return tuple([at for at, line in enumerate(middle.lines) if line[0] in OPS and at not in needed])

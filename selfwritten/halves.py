"""Forms that can fail behind their effect."""

from selfwritten.grammar import NUMBER_LETTERS
from selfwritten.lines import ANSWERED, line_parts, register_rows, registers_of
from selfwritten.patterns import cells_of
from selfwritten.pools import Pool
from selfwritten.solving import solved


def half_run(book, name):
    """A run of this form that is not whole: its code, place, registers and answers; or None."""
    form = book.form_named(name)
    pool = Pool(book.word)
    limits = _limits(book, form)
    for row in register_rows(form):
        parts = _parts(pool, book, form, registers_of(form, row), len(limits))
        found = _failing(pool, limits, form, parts)
        if found is not None:
            at, words = found
            return _shown(book, form, row, at, words)
    return None


def _limits(book, form):
    """The limits of the unknowns: the registers, the place, the number letters, the answers."""
    letters = [bits for letter, bits in form.letters if letter in NUMBER_LETTERS]
    answers = [book.word for line in form.lines if line[0] in ANSWERED]
    return [book.word] * (book.registers + 1) + letters + answers


def _parts(pool, book, form, registers, many):
    """The parts of the lines, over so many unknowns."""
    unknowns = [pool.unknown(number) for number in range(many)]
    regs = unknowns[:book.registers]
    here = unknowns[book.registers]
    letters = [letter for letter, _ in form.letters if letter in NUMBER_LETTERS]
    rest = unknowns[book.registers + 1:]
    numbers = {letter: rest[at] for at, letter in enumerate(letters)}
    answers = rest[len(letters):]
    after = pool.apply("add", here, pool.num(form.size))
    return line_parts(pool, book.word, form.lines, registers, numbers, regs, here, after, answers)


def _failing(pool, limits, form, parts):
    """The first line behind the effect where a run can fail, and words for it; or None."""
    if form.effect is None:
        return None
    ahead = []
    for at, line in enumerate(form.lines):
        if at > form.effect and line[0] in ("read", "must"):
            own = [(parts[line[1]], False)] if line[0] == "must" else []
            words = solved(pool, limits, ahead + own)
            if words is not None:
                return at, words
        if line[0] == "must":
            ahead.append((parts[line[1]], True))
    return None


def _shown(book, form, row, at, words):
    """The run at these words of the unknowns, which fails at this line."""
    regs = words[:book.registers]
    place = words[book.registers]
    rest = words[book.registers + 1:]
    letters = len(form.letters) - len(row)
    code = cells_of(form.patterns, row + rest[:letters])
    found = rest[letters:]
    answers = []
    answered = 0
    for line in form.lines[:at]:
        if line[0] in ANSWERED:
            answers.append(found[answered])
            answered += 1
        elif line[0] in ("write", "out"):
            answers.append(0)
    if form.lines[at][0] == "read":
        answers.append(None)
    return code, place, regs, tuple(answers)

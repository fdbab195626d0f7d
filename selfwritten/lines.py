"""The lines of forms as parts of a pool."""

from selfwritten.grammar import REGISTER_LETTERS, VALUES
from selfwritten.lifting import lifted

# Lines whose word is the answer to their ask.
ANSWERED = ("read", "in")


def is_value(line):
    """Whether the line of a form is a value line."""
    return line[0] in VALUES


def letters_told(form, numbers):
    """A dict from each letter of the form to its number in an instruction."""
    return {letter: number for (letter, _), number in zip(form.letters, numbers)}


def registers_of(form, numbers):
    """A dict from each register letter of the form to its number in an instruction."""
    told = letters_told(form, numbers)
    return {letter: told[letter] for letter in told if letter in REGISTER_LETTERS}


def register_rows(form):
    """All rows of numbers of the register letters, the last one's changing fastest."""
    rows = [()]
    for letter, bits in form.letters:
        if letter in REGISTER_LETTERS:
            rows = [row + (number,) for row in rows for number in range(1 << bits)]
    return rows


def line_parts(pool, word, lines, registers, numbers, regs, here, after, answers):
    """For each line its part, None for a line that is no value line.

    regs has the part of each register, here and after those of the place and of
    the next place, answers one for each read and in line.
    """
    parts = []
    answered = 0
    for line in lines:
        name = line[0]
        part = None
        if name == "get":
            part = regs[registers.get(line[1], line[1])]
        elif name == "num":
            part = numbers[line[1]] if isinstance(line[1], str) else pool.num(line[1])
        elif name == "here":
            part = here
        elif name == "next":
            part = after
        elif name in ANSWERED:
            part = answers[answered]
            answered += 1
        elif is_value(line):
            part = lifted(pool, name, parts[line[1]], parts[line[2]], word)
        parts.append(part)
    return parts

"""Codes: rows of cells that are instructions."""

from selfwritten.errors import BadSource, BadWords
from selfwritten.patterns import cells_of, fixed, numbers_in
from selfwritten.widths import is_row, is_word

MOST_CELLS = 3


def decoded(book, cells):
    """The instruction with which the cells begin, or None, and how many were looked at."""
    if not is_row(cells):
        raise BadWords(-1)
    looked = []
    while True:
        looked.append(_cell(book, cells, len(looked)))
        form = form_with(book, looked)
        if form is not None:
            return (form.name, numbers_in(form.patterns, looked)), len(looked)
        if not goes_on(book, looked):
            return None, len(looked)


def _cell(book, cells, at):
    """The cell that is looked at."""
    if at >= len(cells) or not is_word(cells[at], book.word):
        raise BadWords(at)
    return cells[at]


def form_with(book, looked):
    """The first form of as many cells as were looked at that fits all of them, or None."""
    for form in book.forms:
        if form.size == len(looked) and form.may_begin(looked):
            return form
    return None


def goes_on(book, looked):
    """Whether a form of more cells fits those looked at."""
    return any([form.size > len(looked) and form.may_begin(looked) for form in book.forms])


def form_of(book, instruction):
    """The form of an instruction of the book."""
    if not is_row(instruction) or len(instruction) != 2 or not is_row(instruction[1]):
        raise BadSource(0)
    name, numbers = instruction
    form = book.form_named(name)
    if len(numbers) != len(form.letters):
        raise BadSource(0)
    for (_, bits), number in zip(form.letters, numbers):
        if not is_word(number, bits):
            raise BadSource(0)
    return form


def encoded(book, instruction):
    """The code of an instruction."""
    form = form_of(book, instruction)
    return cells_of(form.patterns, instruction[1])


def code_size(book, instruction):
    """How many cells the code of an instruction has."""
    return form_of(book, instruction).size


def begins(book):
    """How many rows of three words begin with a code."""
    return sum([1 << (MOST_CELLS * book.word - fixed(form.patterns)) for form in book.forms])


def is_full(book):
    """Whether every row of three words begins with a code."""
    return begins(book) == 1 << (MOST_CELLS * book.word)

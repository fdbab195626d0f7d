"""Forms, books and instructions that do the same."""

from selfwritten.codes import form_of
from selfwritten.drawing import Drawing, drawn_form
from selfwritten.errors import BadPair
from selfwritten.grammar import NUMBER_LETTERS
from selfwritten.judging import difference, judged
from selfwritten.lines import ANSWERED, register_rows, registers_of
from selfwritten.patterns import cells_of
from selfwritten.pools import Pool
from selfwritten.roads import road_of
from selfwritten.sketches import sketch_of_road
from selfwritten.widths import check_int, ones


def forms_alike(book, other, name):
    """An instruction, place, registers and answers for which the forms are not alike, or None."""
    one, two = book.form_named(name), other.form_named(name)
    if not _same_words(book, other) or one.patterns != two.patterns:
        raise BadPair()
    return _unlike(book, one, two)


def _same_words(book, other):
    return book.word == other.word and book.registers == other.registers


def _unlike(book, one, two):
    """As forms_alike, for two forms of the same patterns."""
    letters = [bits for letter, bits in one.letters if letter in NUMBER_LETTERS]
    first = book.registers + 1 + len(letters)
    many = max([len([line for line in form.lines if line[0] in ANSWERED]) for form in (one, two)])
    limits = [book.word] * (book.registers + 1) + letters + [book.word] * many
    for row in register_rows(one):
        pool = Pool(book.word)
        chains = [_chain(pool, book, form, registers_of(one, row), first) for form in (one, two)]
        found = difference(pool, limits, first, chains[0], chains[1])
        if found is not None:
            words, answers = found
            code = cells_of(one.patterns, row + words[book.registers + 1:first])
            return (code, words[book.registers], words[:book.registers], answers)
    return None


def _chain(pool, book, form, registers, first):
    """The chain of a form whose register letters have these numbers, at any place."""
    regs = tuple([pool.unknown(j) for j in range(book.registers)])
    here = pool.unknown(book.registers)
    after = pool.apply("add", here, pool.num(form.size))
    letters = [letter for letter, _ in form.letters if letter in NUMBER_LETTERS]
    numbers = {letter: pool.unknown(book.registers + 1 + at) for at, letter in enumerate(letters)}
    drawing = Drawing(pool, book.word, first)
    place, left = drawn_form(drawing, form, registers, numbers, here, after, (0, here, regs))
    drawing.draw_end((None, 1, place, left))
    return tuple(drawing.drawn)


def books_alike(book, other):
    """The first form that is not alike, with what shows it, or None."""
    names = [form.name for form in book.forms]
    if not _same_words(book, other) or sorted(names) != sorted([form.name for form in other.forms]):
        raise BadPair()
    twins = [other.form_named(name) for name in names]
    for form, twin in zip(book.forms, twins):
        if form.patterns != twin.patterns:
            raise BadPair()
    for form, twin in zip(book.forms, twins):
        found = _unlike(book, form, twin)
        if found is not None:
            return (form.name,) + found
    return None


def codes_alike(book, one, other, place):
    """Registers and answers for which two instructions do not do the same at a place, or None."""
    form_of(book, one)
    form_of(book, other)
    check_int(place, 0, ones(book.word), "place")
    pool = Pool(book.word)
    sketches = [sketch_of_road(pool, book, road_of(book, [(place, told)])) for told in (one, other)]
    return judged(sketches[0], sketches[1])

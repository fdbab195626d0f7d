"""Programs: sources to cells, and cells to lists."""

from selfwritten.books import is_name
from selfwritten.codes import MOST_CELLS, code_size, decoded, encoded
from selfwritten.errors import BadSource, BadWords, TooMany
from selfwritten.widths import check_int, check_words, is_row, is_word, ones


def assembled(book, rows, *, place=0):
    """The cells of a source."""
    check_int(place, 0, ones(book.word), "place")
    labels = _labels(book, rows, place)
    cells = []
    for at, row in enumerate(rows):
        if is_row(row[1]):
            cells.extend(_code(book, row, labels, at))
        elif row[0] == "word":
            cells.append(row[1])
    if len(cells) > 1 << book.word:
        raise TooMany("cells")
    return tuple(cells)


def _labels(book, rows, place):
    """The place of each label, after the first round of checks."""
    if not is_row(rows):
        raise BadSource(0)
    labels = {}
    for at, row in enumerate(rows):
        if not is_row(row) or len(row) != 2:
            raise BadSource(at)
        if is_row(row[1]):
            place += _size(book, row, at)
        elif row[0] == "label":
            if not is_name(row[1]) or row[1] in labels:
                raise BadSource(at)
            labels[row[1]] = place & ones(book.word)
        elif row[0] == "word" and is_word(row[1], book.word):
            place += 1
        else:
            raise BadSource(at)
    return labels


def _size(book, row, at):
    """How many cells an instruction makes, as long as its labels may have any place."""
    numbers = [0 if isinstance(number, str) else number for number in row[1]]
    try:
        return code_size(book, (row[0], numbers))
    except BadSource:
        raise BadSource(at) from None


def _code(book, row, labels, at):
    """The code of an instruction, its labels replaced by their places."""
    # A name without a label becomes -1, which is too low for every letter.
    numbers = [labels.get(number, -1) if isinstance(number, str) else number for number in row[1]]
    try:
        return encoded(book, (row[0], numbers))
    except BadSource:
        raise BadSource(at) from None


def listed(book, cells, *, place=0):
    """What stands in the cells: the list of (place, instruction, code)."""
    check_int(place, 0, ones(book.word), "place")
    cells = check_words(cells, book.word, None)
    rows = []
    at = 0
    while at < len(cells):
        instruction, code = _first(book, cells[at:at + MOST_CELLS])
        rows.append(((place + at) & ones(book.word), instruction, code))
        at += len(code)
    return rows


def _first(book, cells):
    """The instruction with which the cells begin and its code, or None and the first cell."""
    try:
        instruction, many = decoded(book, cells)
    except BadWords:
        # All cells are words, so they end before decoding stops.
        return None, cells[:1]
    if instruction is None:
        return None, cells[:1]
    return instruction, cells[:many]

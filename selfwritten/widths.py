"""Integers, words, and rows of words."""

from selfwritten.errors import BadNumber, BadWords


def is_int(value):
    """Whether the value is an integer; True and False are none."""
    return isinstance(value, int) and not isinstance(value, bool)


def is_row(value):
    return isinstance(value, (list, tuple))


def is_word(value, width):
    """Whether the value is a word of this width."""
    return is_int(value) and 0 <= value < 1 << width


def check_int(value, low, high, name):
    """Returns the value; a high of None is no bound."""
    if not is_int(value) or value < low:
        raise BadNumber(name)
    if high is not None and value > high:
        raise BadNumber(name)
    return value


def ones(width):
    """The word of all ones."""
    check_int(width, 0, 64, "width")
    return (1 << width) - 1


def check_length(row, many):
    """Raises unless the row is one, of the required length if many is not None."""
    if not is_row(row):
        raise BadWords(-1)
    if many is not None and len(row) != many:
        raise BadWords(-1)


def check_entries(row, most):
    """Returns the tuple of the entries, integers from 0 to most."""
    for at, entry in enumerate(row):
        if not is_int(entry) or entry < 0 or entry > most:
            raise BadWords(at)
    return tuple(row)


def check_words(row, width, many):
    """Returns the tuple of the entries, words of this width."""
    check_length(row, many)
    return check_entries(row, ones(width))

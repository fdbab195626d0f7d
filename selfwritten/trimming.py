"""Trimmed rows: house rows made of roads as short as the passes make them."""

from selfwritten.errors import NoRule
from selfwritten.laying import laid
from selfwritten.letting import dear_at
from selfwritten.middle import middle_of
from selfwritten.passes import plainly, tidy


def trimmed(pair, road):
    """The trimmed row of a road."""
    middle = middle_of(pair.book, road)
    row = _tidy_row(pair, middle)
    if row is not None and dear_at(pair, road, row) is None:
        return row
    return laid(pair, plainly(middle, pair.book.word))


def _tidy_row(pair, middle):
    """The laid row of the tidy middle row, or None if the pair has not the rules that it needs."""
    try:
        return laid(pair, tidy(middle, pair.book.word))
    except NoRule:
        return None

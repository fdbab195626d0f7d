"""Events of machines: what may stand in them."""

from selfwritten.widths import is_int, is_row, ones

# One sign for each entry: v a word, q a processor, c a signal, g a page, r rights.
ENTRIES = {
    "key": "v",
    "line": "qc",
    "cell": "vv",
    "rights": "gr",
    "drain": "q",
}

LAST_SIGNAL = 7
LAST_PAGE = 7
ALL_RIGHTS = 7


def is_event(word, processors, event):
    """Whether this is an event without a moment, for words of this width and so many processors."""
    if not is_row(event) or len(event) == 0:
        return False
    if not isinstance(event[0], str) or event[0] not in ENTRIES:
        return False
    signs = ENTRIES[event[0]]
    if len(event) != len(signs) + 1:
        return False
    most = {"v": ones(word), "q": processors - 1, "c": LAST_SIGNAL, "g": LAST_PAGE, "r": ALL_RIGHTS}
    return all([is_entry(entry, sign, most[sign]) for sign, entry in zip(signs, event[1:])])


def is_entry(entry, sign, most):
    """Whether this is an integer up to most; only signals begin at 1."""
    least = 1 if sign == "c" else 0
    return is_int(entry) and least <= entry <= most

"""Forms that share a beginning: a code of one is the beginning of a code of the other."""


def shared_code(one, other):
    """The least shared code of two forms of one book, or None."""
    longer, shorter = (one, other) if one.size >= other.size else (other, one)
    cells = [bits for _, bits in longer.fixed]
    for at, (mask, bits) in enumerate(shorter.fixed):
        both = mask & longer.fixed[at][0]
        if both & (bits ^ cells[at]):
            return None
        cells[at] |= bits
    return tuple(cells)


def first_shared(book):
    """The names and the shared code of the first two forms that share a beginning, or None."""
    for at, one in enumerate(book.forms):
        for other in book.forms[at + 1:]:
            code = shared_code(one, other)
            if code is not None:
                return (one.name, other.name, code)
    return None

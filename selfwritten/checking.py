"""Guest books that are let by."""

from selfwritten.errors import HalfDone, OneCode
from selfwritten.halves import half_run
from selfwritten.overlaps import first_shared


def check_book(book):
    """Raises unless no two forms share a beginning and none can fail behind its effect."""
    shared = first_shared(book)
    if shared is not None:
        first, second, code = shared
        raise OneCode(first, second, code)
    for form in book.forms:
        run = half_run(book, form.name)
        if run is not None:
            code, place, regs, answers = run
            raise HalfDone(form.name, code, place, regs, answers)


def is_let_by(book):
    """Whether the book is let by."""
    try:
        check_book(book)
    except (OneCode, HalfDone):
        return False
    return True

"""Runs of roads against answers."""

from selfwritten.deeds import Answers, check_answers, handed_over
from selfwritten.widths import check_words


def run_road(book, road, regs, answers):
    """The run of the road: the asks made, and what is handed over."""
    asker, _, handed = _gone(book, road, regs, answers)
    return tuple(asker.asks), handed


def go_through(book, road, regs, answers):
    """The place and registers at the entry, and those behind each instruction done."""
    _, through, _ = _gone(book, road, regs, answers)
    return tuple(through)


def _gone(book, road, regs, answers):
    """The asker, the places and registers gone through, and what is handed over."""
    regs = check_words(regs, book.word, book.registers)
    asker = Answers(check_answers(book.word, answers))
    through = [(road.entry, regs)]
    handed = None
    while handed is None:
        handed = _next_done(book, road, through, asker)
    return asker, through, handed


def _next_done(book, road, through, asker):
    """Does the next instruction; returns None if the road goes on, or what is handed over."""
    at = len(through) - 1
    _, regs = through[at]
    cause, done, place, regs = handed_over(book, road.instructions[at], road.places[at], regs, asker)
    if done == 0:
        return (cause, at, place, regs)
    through.append((place, regs))
    if at + 1 < len(road) and place == road.places[at + 1] and asker.answer(("tick",)) is not None:
        return None
    return (None, at + 1, place, regs)

"""Machines: a guest book, and what happens around it."""

from selfwritten.checking import check_book
from selfwritten.errors import BadMachine
from selfwritten.events import is_event
from selfwritten.widths import check_int, is_int, is_row

MOST_DEPTH = 3
MOST_PROCESSORS = 3
MOST_COUNT = 1000


class Machine:
    """A machine; it never changes."""

    def __init__(self, book, *, depth=0, events=(), turns=((0, 1),), processors=1):
        check_book(book)
        self.book = book
        self.word = book.word
        self.depth = check_int(depth, 0, MOST_DEPTH, "depth")
        self.processors = check_int(processors, 1, MOST_PROCESSORS, "processors")
        self._due = _by_moments(book.word, processors, events)
        self._moments = list(self._due)
        self.events = tuple([(at,) + event for at in self._moments for event in self._due[at]])
        self.turns = _checked_turns(processors, turns)

    def due(self, moment):
        """The events of this moment, each without it."""
        check_int(moment, 0, None, "moment")
        return self._due.get(moment, ())

    def next_due(self, moment):
        """The least moment of an event that is not less than this one, or None."""
        check_int(moment, 0, None, "moment")
        low, high = 0, len(self._moments)
        while low < high:
            middle = (low + high) // 2
            if self._moments[middle] < moment:
                low = middle + 1
            else:
                high = middle
        return self._moments[low] if low < len(self._moments) else None


def _by_moments(word, processors, events):
    """A dict from each moment that has events, ascending, to the tuple of them without it."""
    if not is_row(events):
        raise BadMachine("events")
    found = {}
    for event in events:
        if not is_row(event) or len(event) == 0 or not is_int(event[0]) or event[0] < 0:
            raise BadMachine("events")
        if not is_event(word, processors, event[1:]):
            raise BadMachine("events")
        found.setdefault(event[0], []).append(tuple(event[1:]))
    return {moment: tuple(found[moment]) for moment in sorted(found)}


def _checked_turns(processors, turns):
    """The turns, of which each processor has one."""
    if not is_row(turns):
        raise BadMachine("turns")
    for turn in turns:
        if not _is_turn(processors, turn):
            raise BadMachine("turns")
    owners = [turn[0] for turn in turns]
    if not all([q in owners for q in range(processors)]):
        raise BadMachine("turns")
    return tuple([tuple(turn) for turn in turns])


def _is_turn(processors, turn):
    if not is_row(turn) or len(turn) != 2:
        return False
    q, count = turn
    return is_int(q) and 0 <= q < processors and is_int(count) and 1 <= count <= MOST_COUNT

"""Runs of house rows."""

from selfwritten.deeds import REFUSED, Answers, check_answers
from selfwritten.errors import BadNumber, IsOver
from selfwritten.operations import OPS, op_word
from selfwritten.orders import order_word
from selfwritten.rows import boundary_of, check_row, late_of
from selfwritten.widths import check_int, check_words, is_word, ones

# Steps that ask.
ASKING = ("read", "in", "write", "out", "tick")


class Running:
    """A house row that was entered, and what its house registers and slots have by now."""

    def __init__(self, pair, row, place, regs):
        check_row(pair, row)
        check_int(place, 0, ones(pair.book.word), "place")
        regs = check_words(regs, pair.book.word, pair.book.registers)
        self._pair = pair
        self._row = row
        self.at = 0
        self.done = 0
        self.words = [0] * pair.house.registers
        self.slots = dict(enumerate(regs + (place,)))

    def pending(self):
        """The ask of the next step, or None."""
        if self.at == len(self._row.steps):
            return None
        step = self._row.steps[self.at]
        if step[0] == "read":
            return ("read", self.words[step[2]])
        if step[0] == "in":
            return ("in", step[2])
        if step[0] == "write":
            return ("write", self.words[step[1]], self.words[step[2]])
        if step[0] == "out":
            return ("out", step[1], self.words[step[2]])
        return ("tick",) if step[0] == "tick" else None

    def go(self, answer=None):
        """Does the next step; returns None, or what is handed over."""
        if self.at == len(self._row.steps):
            raise IsOver()
        step = self._row.steps[self.at]
        asks = step[0] in ASKING
        if asks and answer is not None and not is_word(answer, self._pair.book.word):
            raise BadNumber("answer")
        if self._leaves(step, asks and answer is None):
            boundary = boundary_of(self._row, self.at)
            place, regs = self.hand(boundary)
            self.at = len(self._row.steps)
            return (_cause(step), boundary, place, regs)
        self._do(step, answer)
        self.at += 1
        return None

    def _leaves(self, step, refused):
        """Whether the row is left at this step."""
        if step[0] == "must":
            return self.words[step[1]] == 0
        if step[0] == "keep":
            return self.words[step[1]] != step[2]
        return refused or step[0] == "end"

    def _do(self, step, answer):
        """What a step does that goes on."""
        name = step[0]
        if name == "order":
            _, order, dest, x, y, n = step
            words = self.words
            words[dest] = order_word(self._pair.house, order, words[dest], words[x], words[y], n)
        elif name == "load":
            self.words[step[1]] = self.slots.get(step[2], 0)
        elif name == "save":
            self.slots[step[1]] = self.words[step[2]]
        elif name in ("read", "in"):
            self.words[step[1]] = answer
        elif name == "tick":
            self.done += 1

    def hand(self, index):
        """The place and the registers that a hand gives now."""
        check_int(index, 0, len(self._row.hands) - 1, "index")
        found = {}
        for at in late_of(self._row, index):
            entry = self._row.late[at]
            if entry[0] in OPS:
                found[at] = op_word(entry[0], found[entry[1]], found[entry[2]], self._pair.house.width)
            elif entry[0] == "slot":
                found[at] = self.slots.get(entry[1], 0)
            else:
                found[at] = self.words[entry[1]] if entry[0] == "reg" else entry[1]
        words = tuple([found[at] for at in self._row.hands[index]])
        return words[0], words[1:]

    def unanswered(self):
        """The step at which the row is left if nothing more is answered, and what is handed over; nothing changes."""
        at, done = self.at, self.done
        words, slots = list(self.words), dict(self.slots)
        handed = None
        while handed is None:
            step = self._row.steps[self.at]
            handed = self.go()
        self.at = at
        self.done = done
        self.words = words
        self.slots = slots
        return step, handed

    def copy(self):
        """Another Running in the same state."""
        twin = Running(self._pair, self._row, 0, (0,) * self._pair.book.registers)
        twin.at = self.at
        twin.done = self.done
        twin.words = list(self.words)
        twin.slots = dict(self.slots)
        return twin


def _cause(step):
    """The cause with which a row is left at this step."""
    return step[2] if step[0] == "must" else REFUSED.get(step[0])


def run_row(pair, row, place, regs, answers):
    """The asks, what is handed over, and the number of steps done."""
    running = Running(pair, row, place, regs)
    asker = Answers(check_answers(pair.book.word, answers))
    handed = None
    count = 0
    while handed is None:
        count = running.at + 1
        ask = running.pending()
        handed = running.go(None if ask is None else asker.answer(ask))
    return tuple(asker.asks), handed, count

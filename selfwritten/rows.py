"""House rows: their steps, late words and hands."""

from selfwritten.errors import BadHouse, BadNumber, BadRow
from selfwritten.operations import OPS
from selfwritten.ports import LAST_IN, LAST_OUT
from selfwritten.widths import check_int, is_int, is_row, is_word, ones

# One sign for each entry: r a house register, s a slot, p a port of in,
# q a port of out, c a cause, v a word of the guest book. An order stands apart.
ENTRIES = {
    "load": "rs",
    "save": "sr",
    "read": "rr",
    "in": "rp",
    "write": "rr",
    "out": "qr",
    "tick": "",
    "must": "rc",
    "keep": "rv",
    "end": "",
}

LEAVES = ("read", "write", "in", "out", "tick", "must", "keep", "end")
LATE = ("slot", "reg", "num")


class Row:
    """A house row; it never changes."""

    def __init__(self, steps, late, hands):
        self.steps = _checked_steps(steps)
        # How many ticks stand ahead of each step, and in all.
        self.ahead = _ticks_ahead(self.steps)
        self.late = _checked_late(late, len(self.steps))
        self.hands = _checked_hands(hands, len(self.steps), len(self.late), self.ahead[-1] + 2)

    def __eq__(self, other):
        if not isinstance(other, Row):
            return False
        return self.steps == other.steps and self.late == other.late and self.hands == other.hands


def _checked_steps(steps):
    if not is_row(steps):
        raise BadRow(0)
    for at, step in enumerate(steps):
        if not _is_step(step):
            raise BadRow(at)
    names = [step[0] for step in steps]
    if names.count("end") != 1 or names[-1] != "end":
        raise BadRow(len(steps))
    return tuple([tuple(step) for step in steps])


def _is_step(step):
    if not is_row(step) or len(step) == 0 or not isinstance(step[0], str):
        return False
    if step[0] == "order":
        return len(step) == 6 and isinstance(step[1], str) and _are_counts(step[2:])
    if step[0] not in ENTRIES or len(step) != len(ENTRIES[step[0]]) + 1:
        return False
    return _are_counts(step[1:])


def _are_counts(entries):
    return all([is_int(entry) and entry >= 0 for entry in entries])


def _ticks_ahead(steps):
    found = [0]
    for step in steps:
        found.append(found[-1] + (1 if step[0] == "tick" else 0))
    return tuple(found)


def _checked_late(late, first):
    """The late words; first is added to the index of a wrong one."""
    if not is_row(late):
        raise BadRow(first)
    for at, entry in enumerate(late):
        if not _is_late(entry, at):
            raise BadRow(first + at)
    return tuple([tuple(entry) for entry in late])


def _is_late(entry, at):
    if not is_row(entry) or len(entry) == 0 or not isinstance(entry[0], str):
        return False
    if entry[0] in OPS:
        return len(entry) == 3 and _are_counts(entry[1:]) and max(entry[1:]) < at
    return entry[0] in LATE and len(entry) == 2 and _are_counts(entry[1:])


def _checked_hands(hands, steps, late, many):
    """The hands, so many; the numbers of steps and late words are added to the index of a wrong one."""
    if not is_row(hands) or len(hands) != many:
        raise BadRow(steps + late)
    for at, hand in enumerate(hands):
        if not is_row(hand) or len(hand) == 0:
            raise BadRow(steps + late + at)
        if not _are_counts(hand) or max(hand) >= late:
            raise BadRow(steps + late + at)
    return tuple([tuple(hand) for hand in hands])


def check_row(pair, row):
    """Raises unless the row fits the pair."""
    bounds = _bounds(pair)
    for at, step in enumerate(row.steps):
        if not _step_fits(pair.house, bounds, step):
            raise BadRow(at)
    for at, entry in enumerate(row.late):
        if not _late_fits(pair.house, entry):
            raise BadRow(len(row.steps) + at)
    for at, hand in enumerate(row.hands):
        if len(hand) != pair.book.registers + 1:
            raise BadRow(len(row.steps) + len(row.late) + at)


def _bounds(pair):
    """For each sign of an entry that is bounded the least and the greatest number."""
    return {
        "r": (0, pair.house.registers - 1),
        "p": (0, LAST_IN),
        "q": (0, LAST_OUT),
        "c": (12, 15),
        "v": (0, ones(pair.book.word)),
    }


def _step_fits(house, bounds, step):
    if step[0] == "order":
        return _order_fits(house, step)
    for sign, entry in zip(ENTRIES[step[0]], step[1:]):
        low, high = bounds.get(sign, (0, entry))
        if not low <= entry <= high:
            return False
    return True


def _order_fits(house, step):
    _, name, dest, x, y, n = step
    try:
        _, letters, _ = house.order_named(name)
    except BadHouse:
        return False
    if dest >= house.registers or n > (ones(house.width) if "n" in letters else 0):
        return False
    most = house.registers - 1
    return x <= (most if "x" in letters else 0) and y <= (most if "y" in letters else 0)


def _late_fits(house, entry):
    if entry[0] == "reg":
        return entry[1] < house.registers
    return entry[0] != "num" or is_word(entry[1], house.width)


def segment_of(row, at):
    """How many ticks stand ahead of a step."""
    check_int(at, 0, len(row.steps) - 1, "at")
    return row.ahead[at]


def boundary_of(row, at):
    """The boundary at which the row is left at a step where it can be left."""
    return row.ahead[at] + (1 if row.steps[at][0] in ("tick", "keep", "end") else 0)


def late_of(row, index):
    """The ascending list of the indexes of the late words that a hand is made of."""
    found = {at: True for at in row.hands[index]}
    for at in reversed(range(len(row.late))):
        if at in found and row.late[at][0] in OPS:
            found.update({operand: True for operand in row.late[at][1:]})
    return sorted(found)


def handed_parts(row, index):
    """How many operations a hand is made of."""
    check_int(index, 0, len(row.hands) - 1, "index")
    return len([at for at in late_of(row, index) if row.late[at][0] in OPS])


def price(row, at):
    """The price of leaving the row at a step."""
    check_int(at, 0, len(row.steps) - 1, "at")
    if row.steps[at][0] not in LEAVES:
        raise BadNumber("at")
    return at + 1 + handed_parts(row, boundary_of(row, at))

"""House rows that are let by for a road."""

from selfwritten.errors import BadRow, Dearer, NoRoom, Refusal, Unlike
from selfwritten.judging import judged
from selfwritten.pools import Pool
from selfwritten.rows import LEAVES, check_row, price, segment_of
from selfwritten.sketches import sketch_of_road, sketch_of_row
from selfwritten.templates import base


def let_by(pair, road, row):
    """Raises unless the row is let by for the road."""
    _check_shape(pair, road, row)
    slot = least_slot_beyond(pair, row)
    if slot is not None:
        raise NoRoom(slot)
    dear = _first_dear(pair, road, row)
    if dear is not None:
        leave, cost, most = dear
        raise Dearer(leave, cost, most)
    pool = Pool(pair.house.width)
    found = judged(sketch_of_road(pool, pair.book, road), sketch_of_row(pool, pair, row, road.entry))
    if found is not None:
        regs, answers = found
        raise Unlike(regs, answers)


def is_let_by_judge(pair, road, row):
    """Whether the row is let by, and the judge says so."""
    try:
        let_by(pair, road, row)
    except Refusal:
        return False
    return True


def dear_at(pair, road, row):
    """The first leave that is dearer than allowed, its price and the most, or None."""
    _check_shape(pair, road, row)
    return _first_dear(pair, road, row)


def _check_shape(pair, road, row):
    """Raises unless the row fits the pair and has a hand for each boundary of the road."""
    check_row(pair, row)
    if len(row.hands) != len(road) + 1:
        raise BadRow(len(row.steps) + len(row.late))


def least_slot_beyond(pair, row):
    """The least slot that is beyond the pair's room, or None."""
    slots = [step[2] for step in row.steps if step[0] == "load"]
    slots.extend([step[1] for step in row.steps if step[0] == "save"])
    slots.extend([late[1] for late in row.late if late[0] == "slot"])
    beyond = [slot for slot in slots if slot >= pair.r]
    return min(beyond) if beyond else None


def _first_dear(pair, road, row):
    """As dear_at, for a row of the road's shape."""
    most = [base(pair, road, i) for i in range(len(road) + 1)]
    for at, step in enumerate(row.steps):
        if step[0] in LEAVES:
            cost = price(row, at)
            bound = most[segment_of(row, at) + 1]
            if cost > bound:
                return (at, cost, bound)
    return None

"""What fast machines have cost, and the bounds that they keep."""

from selfwritten.errors import BadPair
from selfwritten.fasts import Fast
from selfwritten.letting import least_slot_beyond
from selfwritten.stores import check_picks, check_size
from selfwritten.widths import check_int
from selfwritten.worlds import check_world


def bill(fast):
    """The house steps, road steps, steps written, and makings."""
    return (fast.house_steps, fast.road_steps, fast.written, fast.made)


def keeps_bounds(fast):
    """Whether the bounds that are read off the pair hold."""
    pair = fast.pair
    begun = 0 if fast.riding() is None and fast.waiting is None else 1
    if fast.house_steps > pair.c * (fast.road_steps + begun) or fast.written > pair.d * fast.made:
        return False
    return all([least_slot_beyond(pair, fast.store.row_at(entry)) is None for entry in fast.store.entries()])


def dearest(pair):
    """The name of the first form without a goto that costs the most, or None."""
    names = [form.name for form in pair.book.forms if form.goto is None]
    if not names:
        return None
    costs = [pair.cost(name) for name in names]
    return names[costs.index(max(costs))]


def bill_ahead(machine, pair, world, moment, size, picks, longest):
    """The house steps, steps written and makings of a new fast machine run to the moment."""
    if pair.book != machine.book:
        raise BadPair()
    check_world(machine, world)
    check_int(moment, 0, None, "moment")
    check_size(size)
    check_picks(picks)
    check_int(longest, 1, pair.longest, "longest")
    fast = Fast(machine, pair, world, size=size, picks=picks, plan=((1, longest),))
    fast.run(moment)
    return (fast.house_steps, fast.written, fast.made)

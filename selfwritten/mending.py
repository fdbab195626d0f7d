"""Mending stores, and keeping old roads in changed worlds."""

from selfwritten.judging import judged
from selfwritten.letting import is_let_by_judge
from selfwritten.pools import Pool
from selfwritten.roads import again, is_fresh
from selfwritten.sketches import sketch_of_road, sketch_of_row
from selfwritten.templates import template
from selfwritten.trimming import trimmed
from selfwritten.worlds import check_world


def good_row(pair, road, row):
    """Whether the row is good for the road."""
    if len(road) > pair.longest:
        return False
    if row == template(pair, road) or row == trimmed(pair, road):
        return True
    return is_let_by_judge(pair, road, row)


def mend(machine, pair, world, store):
    """Throws out the roads that are not fresh or whose row is not good; returns their entries."""
    check_world(machine, world)
    gone = [entry for entry in store.entries() if not _may_stay(machine, pair, world, store, entry)]
    for entry in gone:
        store.throw(entry)
    store.links = {link: True for link in store.links if link[0] in store and link[1] in store}
    return tuple(gone)


def _may_stay(machine, pair, world, store, entry):
    """Whether the road of this entry is fresh, and its row good."""
    road = store.road_at(entry)
    return is_fresh(machine, world, road) and good_row(pair, road, store.row_at(entry))


def keeping(machine, pair, world, road, row):
    """Whether an old road with its row may be kept in the world, and what shows that it may not."""
    check_world(machine, world)
    made = again(machine, world, road)
    if made is None:
        return ("gone", None)
    if made == road:
        return ("fresh", None)
    pool = Pool(pair.house.width)
    found = judged(sketch_of_row(pool, pair, row, road.entry), sketch_of_road(pool, pair.book, made))
    return ("same", None) if found is None else ("unlike", found)

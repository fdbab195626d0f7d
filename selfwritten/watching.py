"""Watching a store: roads that do not hold are thrown out."""

from selfwritten.roads import holds
from selfwritten.worlds import check_world


def watch(machine, world, store):
    """Throws out the roads that do not hold in the world; returns their entries."""
    check_world(machine, world)
    return watched(world, store)


def watched(world, store):
    """As watch, for a world that was checked."""
    gone = [entry for entry in store.entries() if not holds(world, store.road_at(entry))]
    for entry in gone:
        store.throw(entry)
    return tuple(gone)


def looked_at(store):
    """Pairs of an address and the entries of the roads that have looked at its cell."""
    found = {}
    for entry in store.entries():
        for look in store.road_at(entry).looks:
            if look[0] == "cell":
                found.setdefault(look[1], {})[entry] = True
    return tuple([(x, tuple(found[x])) for x in sorted(found)])

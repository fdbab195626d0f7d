"""Groups of demands that have to be decided together."""

from selfwritten.bits import standing_parts
from selfwritten.demands import check_demands, parts_of
from selfwritten.errors import TooMany
from selfwritten.frames import entries_of

MOST_UNKNOWNS = 6
MOST_STANDING = 14
MOST_DEMANDS = 12


def groups(pool, demands):
    """The groups, each the tuple of the indexes of its demands."""
    labels = _labels(pool, check_demands(pool, demands))
    found = {}
    for at, label in enumerate(labels):
        found.setdefault(label, []).append(at)
    return tuple([tuple(indexes) for indexes in list(found.values())])


def _labels(pool, demands):
    """For each demand the index of the last demand of its group."""
    labels = []
    owners = {}
    for at, number in enumerate(parts_of(demands)):
        reached = pool.unknowns([number])
        met = {owners[unknown]: True for unknown in reached if unknown in owners}
        labels = [at if label in met else label for label in labels] + [at]
        owners = {unknown: at if owners[unknown] in met else owners[unknown] for unknown in owners}
        for unknown in reached:
            owners[unknown] = at
    return labels


def grouped(pool, demands):
    """The demands of each group."""
    return [[demands[at] for at in indexes] for indexes in groups(pool, demands)]


def check_size(pool, demands):
    """Raises if these demands are too many for one group."""
    numbers = parts_of(demands)
    if len(pool.unknowns(numbers)) > MOST_UNKNOWNS:
        raise TooMany("unknowns")
    standing = standing_parts(pool, numbers)
    if sum([entries_of(pool.part(number)[0]) for number in standing]) > MOST_STANDING:
        raise TooMany("standing")
    if len(demands) > MOST_DEMANDS:
        raise TooMany("demands")

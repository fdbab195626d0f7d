"""The checks of limits and demands."""

from selfwritten.errors import BadWords
from selfwritten.widths import check_entries, check_length, is_int, is_row


def check_limits(pool, limits):
    """Returns the tuple of the limits."""
    check_length(limits, None)
    return check_entries(limits, pool.width)


def check_demands(pool, demands):
    """Returns the tuple of the demands, each a tuple."""
    check_length(demands, None)
    for at, demand in enumerate(demands):
        if not _is_demand(pool, demand):
            raise BadWords(at)
    return tuple([tuple(demand) for demand in demands])


def _is_demand(pool, demand):
    if not is_row(demand) or len(demand) != 2:
        return False
    number, wanted = demand
    return is_int(number) and 0 <= number < len(pool) and isinstance(wanted, bool)


def parts_of(demands):
    """The list of the part numbers of the demands."""
    return [number for number, _ in demands]


def check_reach(pool, limits, numbers):
    """Raises unless each unknown that the parts reach has a limit."""
    for unknown in pool.unknowns(numbers):
        if unknown >= len(limits):
            raise BadWords(len(limits))


def check_all(pool, limits, demands):
    """Returns the limits and the demands, each unknown of which has a limit."""
    limits = check_limits(pool, limits)
    demands = check_demands(pool, demands)
    check_reach(pool, limits, parts_of(demands))
    return limits, demands

"""Terms of one width in pools of another, and parts in place of unknowns."""

from selfwritten.errors import BadOp
from selfwritten.operations import OPS
from selfwritten.widths import check_int, ones


def lifted(pool, name, one, other, width):
    """The operation as it is at a lesser width, on words of that width."""
    if name not in OPS:
        raise BadOp(name)
    pool.check_part(one)
    pool.check_part(other)
    check_int(width, 1, pool.width, "width")
    part = pool.apply(name, one, other)
    if name in ("add", "sub"):
        return pool.apply("and", part, pool.num(ones(width)))
    return part


def put_in(pool, part, parts):
    """The part with parts[i] in place of each unknown i that has one."""
    numbers = pool.reached(part)
    places = pool.check_parts(parts)
    made = {}
    for number in numbers:
        row = pool.part(number)
        if len(row) == 3:
            made[number] = pool.apply(row[0], made[row[1]], made[row[2]])
        elif row[0] == "get" and row[1] < len(places):
            made[number] = places[row[1]]
        else:
            made[number] = number
    return made[part]


def carried(pool, part, other):
    """The same term in another pool, its numbers modulo that pool's words."""
    numbers = pool.reached(part)
    most = ones(other.width)
    made = {}
    for number in numbers:
        row = pool.part(number)
        if len(row) == 3:
            made[number] = other.apply(row[0], made[row[1]], made[row[2]])
        elif row[0] == "get":
            made[number] = other.unknown(row[1])
        else:
            made[number] = other.num(row[1] & most)
    return made[part]

"""Sheets: all standings that can be reached, shown place by place."""

from selfwritten.demands import check_all
from selfwritten.frames import Frame, coded, column, parted, spread
from selfwritten.groups import check_size
from selfwritten.widths import is_int, is_row


def sheet(pool, limits, demands):
    """The standings reached behind each number of places, from all beginnings."""
    frame, columns = _framed(pool, limits, demands)
    codes = [coded(row) for row in frame.beginnings()]
    rows = [codes]
    for place in range(frame.width):
        codes = _behind(frame, place, codes, columns[place])
        rows.append(codes)
    return tuple([tuple(sorted([spread(code, frame.many) for code in row])) for row in rows])


def _behind(frame, place, codes, letters_there):
    """The codes of all standings that these lead to."""
    masks, letters = letters_there
    found = {}
    for code in codes:
        entries = frame.followers(place, code, masks, letters)
        for _, follower in parted(letters, entries):
            found[follower] = True
    return list(found)


def is_sheet(pool, limits, demands, rows):
    """Whether the rows show that no words keep all demands."""
    frame, columns = _framed(pool, limits, demands)
    if not is_row(rows) or len(rows) != frame.width + 1:
        return False
    if not all([_are_standings(row, frame.many) for row in rows]):
        return False
    held = [{coded(standing): True for standing in row} for row in rows]
    if not all([coded(row) in held[0] for row in frame.beginnings()]):
        return False
    for place in range(frame.width):
        after = _behind(frame, place, list(held[place]), columns[place])
        if not all([code in held[place + 1] for code in after]):
            return False
    return not any([frame.is_end(code) for code in held[-1]])


def _framed(pool, limits, demands):
    """The frame of the demands and the letters at each place, after all checks."""
    limits, demands = check_all(pool, limits, demands)
    check_size(pool, demands)
    frame = Frame(pool, demands)
    own = [limits[unknown] for unknown in frame.gets]
    return frame, [column(own, place) for place in range(pool.width)]


def _are_standings(row, many):
    return is_row(row) and all([_is_standing(standing, many) for standing in row])


def _is_standing(standing, many):
    if not is_row(standing) or len(standing) != many:
        return False
    return all([is_int(entry) and entry in (0, 1) for entry in standing])

"""What rows of requests cost in stores."""

from selfwritten.errors import BadWords
from selfwritten.stores import Shelf, check_picks, check_size
from selfwritten.widths import check_length, is_int, is_row


def made_by(picks, row, size):
    """How many makings a row of requests costs."""
    picks = check_picks(picks)
    requested = check_requests(row)
    shelf = Shelf(check_size(size), picks)
    makings = 0
    for entry, used in requested:
        if _is_making(shelf, entry, used):
            makings += 1
    return makings


def lying(picks, row, size):
    """For each pair the entries that lie there behind it."""
    picks = check_picks(picks)
    requested = check_requests(row)
    shelf = Shelf(check_size(size), picks)
    found = []
    for entry, used in requested:
        _is_making(shelf, entry, used)
        found.append(tuple(sorted(shelf.by_put)))
    return tuple(found)


def least(row, size):
    """The least number of makings."""
    makings, _ = _by_furthest(check_requests(row), check_size(size))
    return makings


def furthest(row, size):
    """The entries picked, if the furthest one is picked each time."""
    _, picked = _by_furthest(check_requests(row), check_size(size))
    return tuple(picked)


def check_requests(row):
    """Returns the row of requests as a tuple."""
    check_length(row, None)
    for at, pair in enumerate(row):
        if not is_row(pair) or len(pair) != 2 or not is_int(pair[0]) or pair[0] < 0:
            raise BadWords(at)
        if not isinstance(pair[1], bool):
            raise BadWords(at)
    return tuple([tuple(pair) for pair in row])


def _is_making(shelf, entry, used):
    """Does what a pair asks of the shelf; returns whether it costs a making."""
    lies = entry in shelf.by_put
    if not used:
        if lies:
            shelf.take_out(entry)
        return False
    if lies:
        shelf.make_used(entry)
        return False
    shelf.place_in(entry)
    return True


def _by_furthest(row, size):
    """The number of makings and the entries picked, if the furthest one is picked each time."""
    following = _following(row)
    # For each entry that lies there the index of the next pair that names it, or None.
    there = {}
    makings, picked = 0, []
    for at, (entry, used) in enumerate(row):
        if used and entry not in there:
            makings += 1
            if len(there) >= size:
                picked.append(_furthest_of(row, there))
                del there[picked[-1]]
        if used:
            there[entry] = following[at]
        elif entry in there:
            del there[entry]
    return makings, picked


def _following(row):
    """For each pair the index of the next one that names its entry, or None."""
    found = []
    ahead = {}
    for at in reversed(range(len(row))):
        entry, _ = row[at]
        found.append(ahead.get(entry))
        ahead[entry] = at
    return found[::-1]


def _furthest_of(row, there):
    """The furthest of the entries that lie there."""
    idle = [entry for entry in there if there[entry] is None or not row[there[entry]][1]]
    if idle:
        return min(idle)
    last = max(list(there.values()))
    return row[last][0]

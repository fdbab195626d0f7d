"""Stores of roads with their house rows."""

from selfwritten.errors import BadNumber, BadPlan, BadWords
from selfwritten.widths import check_int, check_length, is_int, is_row

MOST_ROADS = 8


class Told:
    """A way of picking by numbers that are used one after another, again and again."""

    def __init__(self, numbers):
        check_length(numbers, None)
        for at, number in enumerate(numbers):
            if not _is_count(number):
                raise BadWords(at)
        self.numbers = tuple(numbers)
        self._calls = 0

    def __call__(self, entries):
        """The entry that the next number picks."""
        if not is_row(entries) or len(entries) == 0:
            raise BadWords(-1)
        number = self.numbers[self._calls % len(self.numbers)] if self.numbers else 0
        self._calls += 1
        return entries[number % len(entries)]


def _is_count(number):
    return is_int(number) and number >= 0


def check_size(size):
    """Returns the size of a store."""
    return check_int(size, 1, MOST_ROADS, "size")


def check_picks(picks):
    """Returns a way of picking, a row of numbers as a tuple."""
    if isinstance(picks, str) and picks in ("oldest", "idle"):
        return picks
    if not is_row(picks) or not all([_is_count(number) for number in picks]):
        raise BadPlan(0)
    return tuple(picks)


class Shelf:
    """The entries that lie in a store, in the orders in which they were put and used."""

    def __init__(self, size, picks):
        self.size = size
        self.picks = picks
        self._pick = Told(picks if is_row(picks) else ())
        # Dicts whose keys are the entries, the one put or used last at the end.
        self.by_put = {}
        self.by_use = {}

    def take_out(self, entry):
        del self.by_put[entry]
        del self.by_use[entry]

    def make_used(self, entry):
        """The entry becomes the one used last."""
        del self.by_use[entry]
        self.by_use[entry] = True

    def place_in(self, entry):
        """Puts an entry; returns the entry thrown out for it, or None."""
        gone = None
        if entry in self.by_put:
            gone = entry
        elif len(self.by_put) >= self.size:
            gone = self._picked()
        if gone is not None:
            self.take_out(gone)
        self.by_put[entry] = True
        self.by_use[entry] = True
        return gone

    def _picked(self):
        """The entry that is to be thrown out."""
        if self.picks == "oldest":
            return list(self.by_put)[0]
        if self.picks == "idle":
            return list(self.by_use)[0]
        pick = self._pick
        return pick(sorted(self.by_put))


class Store:
    """Roads with their house rows, each under its entry, and links between them."""

    def __init__(self, size, *, picks="oldest", links=True):
        self.size = check_size(size)
        self.picks = check_picks(picks)
        self.linking = links
        # Pairs (entry, place), as the keys of a dict.
        self.links = {}
        # How many roads were put by now.
        self.puts = 0
        self._shelf = Shelf(self.size, self.picks)
        self._lying = {}

    def __len__(self):
        return len(self._lying)

    def __contains__(self, entry):
        return is_int(entry) and entry in self._lying

    def entries(self):
        """The entries, ascending."""
        return tuple(sorted(self._lying))

    def road_at(self, entry):
        """The road under this entry, or None."""
        return self._lying[entry][0] if entry in self else None

    def row_at(self, entry):
        """The row under this entry, or None."""
        return self._lying[entry][1] if entry in self else None

    def made_order(self):
        """The entries in the order in which the roads were put."""
        return tuple(self._shelf.by_put)

    def used_order(self):
        """The entries in the order of their last use."""
        return tuple(self._shelf.by_use)

    def put(self, road, row):
        """Puts a road with a row; returns the entries thrown out for it."""
        gone = self._shelf.place_in(road.entry)
        if gone is not None:
            self._forget(gone)
        self._lying[road.entry] = (road, row)
        self.puts += 1
        return () if gone is None else (gone,)

    def use(self, entry):
        """Makes this road the one used last."""
        if entry not in self:
            raise BadNumber("entry")
        self._shelf.make_used(entry)

    def throw(self, entry):
        """Throws out this road; returns whether it was there."""
        if entry not in self:
            return False
        self._shelf.take_out(entry)
        self._forget(entry)
        return True

    def _forget(self, entry):
        """Takes away a road and the links that have its entry on either side."""
        del self._lying[entry]
        self.links = {link: True for link in self.links if entry not in link}

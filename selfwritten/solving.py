"""Finding and counting the words that keep demands."""

from selfwritten.demands import check_all, check_limits, check_reach, parts_of
from selfwritten.frames import Frame, coded, column, parted
from selfwritten.groups import check_size, grouped


def solved(pool, limits, demands):
    """A row of words below their limits that keeps all demands, or None."""
    limits, demands = _checked(pool, limits, demands)
    words = [0] * len(limits)
    for group in grouped(pool, demands):
        search = Search(pool, limits, group)
        letters = search.found()
        if letters is None:
            return None
        search.write(letters, words)
    return tuple(words)


def how_many(pool, limits, demands):
    """How many rows of words below their limits keep all demands."""
    limits, demands = _checked(pool, limits, demands)
    many = 1
    for group in grouped(pool, demands):
        many = many * Search(pool, limits, group).total()
    reached = pool.unknowns(parts_of(demands))
    for unknown, limit in enumerate(limits):
        if unknown not in reached:
            many = many << limit
    return many


def told_apart(pool, limits, one, other):
    """A row of words at which two parts have different words, or None."""
    limits = check_limits(pool, limits)
    pool.check_part(one)
    pool.check_part(other)
    if one == other:
        return None
    check_reach(pool, limits, [one, other])
    return solved(pool, limits, [(pool.apply("xor", one, other), True)])


def _checked(pool, limits, demands):
    """The limits and demands, after all checks."""
    limits, demands = check_all(pool, limits, demands)
    for group in grouped(pool, demands):
        check_size(pool, group)
    return limits, demands


class Search:
    """The demands of one group, and the letters at each place."""

    def __init__(self, pool, limits, demands):
        self.frame = Frame(pool, demands)
        own = [limits[unknown] for unknown in self.frame.gets]
        self.columns = [column(own, place) for place in range(pool.width)]

    def found(self):
        """The row of letters, one for each place, that leads to an end, or None."""
        inner = self.frame.inner
        waiting = [(code, ()) for code in self.starts()]
        known = {}
        while waiting:
            code, path = waiting.pop()
            if len(path) == len(self.columns):
                if self.frame.is_end(code):
                    return path
                continue
            for letters, after in self.moves(len(path), code):
                key = (len(path), after & ((1 << inner) - 1))
                if _is_more(known.setdefault(key, []), after >> inner):
                    waiting.append((after, path + (letters.bit_length() - 1,)))
        return None

    def total(self):
        """How many rows of letters lead to an end."""
        counts = {code: 1 for code in self.starts()}
        for place in range(len(self.columns)):
            counts = self.behind(place, counts)
        return sum([counts[code] for code in counts if self.frame.is_end(code)])

    def behind(self, place, counts):
        """How many rows of letters lead to each standing, one place further."""
        after = {}
        for code in counts:
            for letters, follower in self.moves(place, code):
                many = counts[code] * f"{letters:b}".count("1")
                after[follower] = after.get(follower, 0) + many
        return after

    def starts(self):
        """The codes of the beginnings that say what is demanded of less and same parts."""
        said = dict(self.frame.compared)
        demanded = list(zip(self.frame.asked, self.frame.wanted))
        sure = [(said[row], int(wanted)) for row, wanted in demanded if row in said]
        codes = [coded(row) for row in self.frame.beginnings()]
        return [code for code in codes if all([(code >> at) & 1 == bit for at, bit in sure])]

    def moves(self, place, code):
        """Pairs (letters, code): what follows a standing without seeing what is demanded 0."""
        masks, letters = self.columns[place]
        entries = self.frame.followers(place, code, masks, letters)
        for at, wanted in enumerate(self.frame.wanted):
            if not wanted:
                letters = letters & ~entries[self.frame.inner + at]
        return parted(letters, entries)

    def write(self, letters, words):
        """Puts the bits of the letters into the words of the group's unknowns."""
        for place, letter in enumerate(letters):
            masks, _ = self.columns[place]
            for at, unknown in enumerate(self.frame.gets):
                words[unknown] |= ((masks[at] >> letter) & 1) << place


def _is_more(known, seen):
    """Whether no known entry has seen all of this; if so, it is put among them.

    Who has seen more of what is demanded has all chances of who has seen less.
    """
    for old in known:
        if old & seen == seen:
            return False
    known.append(seen)
    return True

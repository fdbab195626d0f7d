"""Going through the bits of words place by place, many letters at once.

A letter is one bit for each unknown, all at one place. Letters are numbered,
and a mask is an integer that has the bit l if something is so at the letter l.
A standing is held as a code: its entry number e is the bit e of the code.
"""

from selfwritten.demands import parts_of

CARRIED = ("add", "sub")
COMPARED = ("less", "same")


class Frame:
    """The parts that demands reach, ready for going from place to place."""

    def __init__(self, pool, demands):
        numbers = pool.reached_by(parts_of(demands))
        self.width = pool.width
        self.gets = pool.unknowns(numbers)
        self.rows = _rows(pool, numbers, self.gets)
        self.asked = [numbers.index(number) for number in parts_of(demands)]
        self.wanted = [wanted for _, wanted in demands]
        starts = _starts(self.rows)
        self.inner = starts.pop()
        self.many = self.inner + len(self.asked)
        # Pairs: a less or same part's position, and its first entry.
        self.compared = [(k, starts[k]) for k, row in enumerate(self.rows) if row[0] in COMPARED]

    def beginnings(self):
        """The ascending list of the standings ahead of the lowest place, as tuples."""
        found = [()]
        for name, _, _ in self.rows:
            found = [row + more for row in found for more in first_entries(name)]
        seen = (0,) * len(self.asked)
        return [row + seen for row in found]

    def followers(self, place, code, masks, letters):
        """For each entry of the next standing the mask of the letters that make it 1.

        masks has the mask of each unknown's bit; letters is the mask of all letters.
        """
        bits = []
        entries = []
        for name, x, y in self.rows:
            if name == "num":
                bits.append(letters if (x >> place) & 1 else 0)
            elif name == "get":
                bits.append(masks[x])
            elif name in CARRIED:
                carry = letters if (code >> len(entries)) & 1 else 0
                bits.append(bits[x] ^ bits[y] ^ carry)
                entries.append(_carry_on(name, bits[x], bits[y], carry, letters))
            elif name in COMPARED:
                said = letters if (code >> len(entries)) & 1 else 0
                by_now = letters if (code >> (len(entries) + 1)) & 1 else 0
                entries.append(said)
                entries.append(_compare_on(name, bits[x], bits[y], by_now))
                bits.append(said if place == 0 else 0)
            else:
                bits.append(_combined(name, bits[x], bits[y]))
        for at in self.asked:
            seen = letters if (code >> len(entries)) & 1 else 0
            entries.append(seen | bits[at])
        return entries

    def is_end(self, code):
        """Whether all is as it was said, and seen exactly where it is demanded."""
        for _, at in self.compared:
            if (code >> at) & 1 != (code >> (at + 1)) & 1:
                return False
        return code >> self.inner == coded(self.wanted)


def _rows(pool, numbers, gets):
    """The parts as tuples whose operands and unknowns are named by their positions."""
    at = {number: k for k, number in enumerate(numbers)}
    rows = []
    for number in numbers:
        part = pool.part(number)
        if part[0] == "num":
            rows.append((part[0], part[1], 0))
        elif part[0] == "get":
            rows.append((part[0], gets.index(part[1]), 0))
        else:
            rows.append((part[0], at[part[1]], at[part[2]]))
    return rows


def _starts(rows):
    """For each part its first entry in a standing; last, how many entries there are."""
    starts = [0]
    for name, _, _ in rows:
        starts.append(starts[-1] + entries_of(name))
    return starts


def entries_of(name):
    """How many entries of a standing a part of this kind has."""
    if name in CARRIED:
        return 1
    return 2 if name in COMPARED else 0


def first_entries(name):
    """The ascending choices of a part's entries ahead of the lowest place."""
    if name == "less":
        return [(0, 0), (1, 0)]
    if name == "same":
        return [(0, 1), (1, 1)]
    return [(0,) * entries_of(name)]


def _combined(name, one, other):
    if name == "and":
        return one & other
    return one | other if name == "or" else one ^ other


def _carry_on(name, one, other, carry, letters):
    """The next carry of add, or the next borrow of sub."""
    if name == "sub":
        one = letters ^ one
    return (one & other) | (one & carry) | (other & carry)


def _compare_on(name, one, other, by_now):
    """What holds by now of less or same behind these bits."""
    apart = one ^ other
    stays = by_now & ~apart
    return stays | (other & apart) if name == "less" else stays


def coded(entries):
    """The code of a row of entries."""
    return sum([1 << at for at, entry in enumerate(entries) if entry])


def spread(code, many):
    """The tuple of as many entries of a code."""
    return tuple([(code >> at) & 1 for at in range(many)])


def column(limits, place):
    """The masks of the unknowns at this place, and the mask of all letters.

    An unknown whose limit ends at this place or ahead of it has the bit 0, so
    only the others count for the letters.
    """
    free = [at for at, limit in enumerate(limits) if limit > place]
    letters = (1 << (1 << len(free))) - 1
    masks = [0] * len(limits)
    for turn, at in enumerate(free):
        # The letters in whose number the bit `turn` is 1 are every second
        # block of 2^turn letters, the first block left out.
        block = 1 << turn
        masks[at] = letters // ((1 << block) + 1) << block
    return masks, letters


def parted(letters, entries):
    """Pairs (letters, code): the letters that lead to one next standing, and its code."""
    found = [(letters, 0)] if letters else []
    for at, mask in enumerate(entries):
        found = _split(found, mask, 1 << at)
    return found


def _split(pairs, mask, bit):
    """The pairs anew, the letters of the mask apart from the others and with this bit."""
    split = []
    for letters, code in pairs:
        inside = letters & mask
        if inside != letters:
            split.append((letters ^ inside, code))
        if inside:
            split.append((inside, code | bit))
    return split

"""Roads: rows of instructions, each with its place."""

from selfwritten.codes import form_of
from selfwritten.errors import BadSource, BadWords
from selfwritten.fetching import GO, fetched
from selfwritten.widths import check_entries, check_int, check_length, is_row, is_word, ones
from selfwritten.worlds import check_world

MOST_INSTRUCTIONS = 8


class Road:
    """A road; it never changes."""

    def __init__(self, pairs, looks, way):
        self.pairs = tuple(pairs)
        self.places = tuple([place for place, _ in pairs])
        self.instructions = tuple([instruction for _, instruction in pairs])
        self.looks = tuple(looks)
        self.way = way

    @property
    def entry(self):
        return self.places[0]

    def __len__(self):
        return len(self.places)

    def __iter__(self):
        return iter(self.pairs)

    def __eq__(self, other):
        if not isinstance(other, Road):
            return False
        return self.pairs == other.pairs and self.looks == other.looks and self.way == other.way


def straight(machine, world, entry, longest):
    """The straight road of the entry, or None."""
    check_world(machine, world)
    check_int(entry, 0, ones(machine.word), "entry")
    check_int(longest, 1, MOST_INSTRUCTIONS, "longest")
    return straight_of(machine, world, entry, longest)


def straight_of(machine, world, entry, longest):
    """As straight, for arguments that were checked."""
    pairs, looks = [], []
    place = entry
    while place is not None and len(pairs) < longest and _is_added(machine, world, place, pairs, looks):
        place = next_place(machine.book, place, pairs[-1][1])
    return Road(pairs, looks, ("straight", longest)) if pairs else None


def _is_added(machine, world, place, pairs, looks):
    """Whether there is an instruction at the place; it is put to the pairs, and what was looked at to the looks."""
    instruction, more, _ = fetched(machine, world, place)
    looks.extend(more)
    if instruction is None:
        return False
    pairs.append((place, instruction))
    return True


def next_place(book, place, instruction):
    """The place behind an instruction, None behind one with a goto."""
    form = book.form_named(instruction[0])
    return (place + form.size) & ones(book.word) if form.goto is None else None


def along(machine, world, places):
    """The road along these places, or None."""
    check_world(machine, world)
    check_length(places, None)
    places = check_entries(places, ones(machine.word))
    if not 1 <= len(places) <= MOST_INSTRUCTIONS:
        raise BadWords(-1)
    return along_of(machine, world, places)


def along_of(machine, world, places):
    """As along, for arguments that were checked."""
    pairs, looks = [], []
    expected = None
    for place in places:
        if expected is not None and place != expected:
            break
        if not _is_added(machine, world, place, pairs, looks):
            break
        expected = next_place(machine.book, place, pairs[-1][1])
    return Road(pairs, looks, ("along", places)) if pairs else None


def road_of(book, pairs):
    """The road of these places and instructions, without looks."""
    if not is_row(pairs) or not 1 <= len(pairs) <= MOST_INSTRUCTIONS:
        raise BadSource(0)
    found = []
    expected = None
    for at, pair in enumerate(pairs):
        if not is_row(pair) or len(pair) != 2 or not is_word(pair[0], book.word):
            raise BadSource(at)
        if expected is not None and pair[0] != expected:
            raise BadSource(at)
        _check_instruction(book, pair[1], at)
        name, numbers = pair[1]
        found.append((pair[0], (name, tuple(numbers))))
        expected = next_place(book, pair[0], pair[1])
    return Road(found, (), ("along", tuple([place for place, _ in found])))


def _check_instruction(book, instruction, at):
    """Raises with this number unless it is an instruction of the book."""
    try:
        form_of(book, instruction)
    except BadSource:
        raise BadSource(at) from None


def again(machine, world, road):
    """The road made now the same way, or None."""
    check_world(machine, world)
    how, told = road.way
    places = (road.entry,) if how == "straight" else told
    if not all([is_word(place, machine.word) for place in places]):
        return None
    if how == "straight":
        return straight_of(machine, world, road.entry, told)
    return along_of(machine, world, told)


def holds(world, road):
    """Whether every look of the road is as it was."""
    for name, at, told in road.looks:
        if name == "go":
            if world.rights[at] & GO != told:
                return False
        elif at >= len(world.cells) or world.cells[at] != told:
            return False
    return True


def is_fresh(machine, world, road):
    """Whether the road made now the same way is this road."""
    return again(machine, world, road) == road


def is_there(machine, world, road):
    """Whether fetching at each of its places gives its instruction."""
    check_world(machine, world)
    for place, instruction in road:
        if not is_word(place, machine.word) or fetched(machine, world, place)[0] != instruction:
            return False
    return True

"""The first world of a run at which something is so."""

from selfwritten.runs import dozed, idle_steps, is_going
from selfwritten.steps import stepped
from selfwritten.widths import check_int, check_words, ones
from selfwritten.worlds import check_world


class Standing:
    """Whether the processor of the present turn stands at one of some places."""

    def __init__(self, machine, places):
        self.machine = machine
        self.places = places

    def is_so(self, world):
        return world.processors[self.machine.turns[world.turn][0]].place in self.places


class Changed:
    """Whether a cell has another word than at the beginning."""

    def __init__(self, x, word):
        self.x = x
        self.word = word

    def is_so(self, world):
        return world.cells[self.x] != self.word


def until_plain(machine, world, moment, places):
    """The first later world at which the processor of the present turn stands at one of the places, or None."""
    check_world(machine, world)
    check_int(moment, 0, None, "moment")
    return _first_plain(machine, world, moment, Standing(machine, check_words(places, machine.word, None)))


def until_fast(fast, moment, places):
    """As until_plain, found by a fast machine from its meaning on."""
    check_int(moment, 0, None, "moment")
    machine = fast.machine
    return _first_fast(fast, moment, Standing(machine, check_words(places, machine.word, None)))


def changed_plain(machine, world, moment, x):
    """The first later world in which cell x has another word, or None."""
    check_world(machine, world)
    check_int(moment, 0, None, "moment")
    check_int(x, 0, ones(machine.word), "x")
    return _first_plain(machine, world, moment, Changed(x, world.cells[x]))


def changed_fast(fast, moment, x):
    """As changed_plain, found by a fast machine from its meaning on."""
    check_int(moment, 0, None, "moment")
    check_int(x, 0, ones(fast.machine.word), "x")
    return _first_fast(fast, moment, Changed(x, fast.meaning().cells[x]))


def _first_plain(machine, world, moment, test):
    """The first later world of the plain machine's run at which the test is so, or None."""
    while is_going(world, moment):
        _, world = stepped(machine, world)
        if test.is_so(world):
            return world
        # The worlds ahead of a leap's last one differ from this one in the moment and the turn's rest only.
        many = idle_steps(machine, world, moment)
        if many > 1:
            world = dozed(world, many - 1)
    return None


def _first_fast(fast, moment, test):
    """The first later meaning at which the test is so, or None."""
    begin = fast.meaning().moment
    while True:
        name = fast.deed(moment)
        meant = fast.meaning()
        if name == "none" or meant.moment > moment:
            return None
        if meant.moment > begin:
            if test.is_so(meant):
                return meant
            # As in the plain machine's run.
            fast.doze(moment)

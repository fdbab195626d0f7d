"""Fetching: which instruction stands at a place, and what was looked at for it."""

from selfwritten.codes import form_with, goes_on
from selfwritten.patterns import numbers_in
from selfwritten.widths import check_int, ones
from selfwritten.worlds import check_world

GO = 1
NO_RIGHT = 8
NO_CODE = 9


def fetch(machine, world, place):
    """The instruction or None, the looks, and the fault or None."""
    check_world(machine, world)
    check_int(place, 0, ones(machine.word), "place")
    return fetched(machine, world, place)


def fetched(machine, world, place):
    """As fetch, for arguments that were checked."""
    looks = []
    cells = []
    while True:
        x = (place + len(cells)) & ones(machine.word)
        page = x >> (machine.word - 3)
        right = world.rights[page] & GO
        looks.append(("go", page, right))
        if right == 0:
            return None, tuple(looks), NO_RIGHT
        looks.append(("cell", x, world.cells[x]))
        cells.append(world.cells[x])
        form = form_with(machine.book, cells)
        if form is not None:
            return (form.name, numbers_in(form.patterns, cells)), tuple(looks), None
        if not goes_on(machine.book, cells):
            return None, tuple(looks), NO_CODE

"""Worlds for the tests: machines, drawn worlds, and worlds told apart fact by fact."""

from selfwritten.books import Book
from selfwritten.happenings import happen, start
from selfwritten.machines import Machine
from selfwritten.memory import write_by
from selfwritten.worlds import placed

FACTS = ("moment", "cells", "rights", "turn", "left", "typed", "shown", "noted")
OWN = ("place", "regs", "buffer", "lines", "alarm", "vector", "mode", "saved", "cause", "kept", "page", "status")


def nop_book(word=4, registers=1):
    return Book(word, registers, [("nop", ["0" * word], ())])


def machine_of(word=4, registers=1, processors=1, turns=None, **more):
    """A machine of a book of one form that does nothing; each processor has a turn of one step."""
    turns = turns or [(q, 1) for q in range(processors)]
    return Machine(nop_book(word, registers), processors=processors, turns=turns, **more)


def told(world):
    """A dict of all facts of a world: cells and rights one by one, those of a processor by its number."""
    found = {}
    for name, fact in zip(FACTS, world.facts()):
        if name in ("cells", "rights"):
            found.update({(name, at): word for at, word in enumerate(fact)})
        else:
            found[name] = fact
    for q, facts in enumerate(world.facts()[8]):
        found.update({(name, q): fact for name, fact in zip(OWN, facts)})
    return found


def apart(one, other):
    """What the second world has otherwise than the first one: a dict of its facts."""
    first, second = told(one), told(other)
    assert list(first) == list(second)
    return {name: second[name] for name in first if first[name] != second[name]}


def drawn_event(rng, word, processors):
    size = 2 ** word
    return rng.choice((
        ("key", rng.randrange(size)),
        ("line", rng.randrange(processors), rng.randrange(1, 8)),
        ("cell", rng.randrange(size), rng.randrange(size)),
        ("rights", rng.randrange(8), rng.randrange(8)),
        ("drain", rng.randrange(processors)),
    ))


def drawn_world(rng, machine):
    """A world in which anything may have happened."""
    size = 2 ** machine.word
    image = [rng.randrange(size) for _ in range(size)]
    places = [rng.randrange(size) for _ in range(machine.processors)]
    vectors = [rng.choice((None, rng.randrange(size))) for _ in range(machine.processors)]
    world = start(machine, image, places, vectors=vectors)
    for q in range(machine.processors):
        regs = [rng.randrange(size) for _ in range(machine.book.registers)]
        world = placed(world, q, rng.randrange(size), regs)
    for _ in range(rng.randrange(12)):
        q = rng.randrange(machine.processors)
        written = write_by(machine, world, q, rng.randrange(size), rng.randrange(size))
        world = world if written is None else written
        event = drawn_event(rng, machine.word, machine.processors)
        if event[0] != "rights":
            world = happen(machine, world, event)
    return world

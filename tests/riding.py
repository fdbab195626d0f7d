"""Fast machines for the tests: drawn pairs, plans, offers and rows, and runs gone through deed by deed."""

from housing import ORDERS, drawn_house, house_of
from plain import drawn_machine, drawn_start
from rowing import spoiled
from selfwritten.books import Book
from selfwritten.houses import House
from selfwritten.machines import Machine
from selfwritten.pairs import Pair
from selfwritten.roads import along
from selfwritten.runs import trail
from selfwritten.templates import template
from selfwritten.trimming import trimmed


def drawn_pair(rng, book, longest=None, most=12):
    """A pair of the book and a drawn house with all rules."""
    width = rng.choice([book.word, rng.randrange(book.word, most + 1)])
    return Pair(book, drawn_house(rng, book.word, width, rng.randrange(3, 9)), longest=longest or rng.randrange(1, 9))


def drawn_case(rng, word=4, **more):
    """A machine, a pair, and a first world."""
    machine = drawn_machine(rng, word, **more)
    return machine, drawn_pair(rng, machine.book), drawn_start(rng, machine)


def drawn_picks(rng):
    return rng.choice(("oldest", "idle", (), (0,), [rng.randrange(9) for _ in range(rng.randrange(1, 6))]))


def drawn_plan(rng, pair):
    many = rng.choice((1, 1, 2, 4))
    return [(rng.choice((0, 1, 1, 2, 2, 3)), rng.randrange(1, pair.longest + 1)) for _ in range(many)]


def drawn_places(rng, machine, worlds):
    """Places along which a processor goes in the worlds of a run, or some others."""
    at = rng.randrange(len(worlds))
    q = rng.randrange(machine.processors)
    found = []
    for world in worlds[at:at + 24]:
        own = world.processors[q].place
        if not found or found[-1] != own:
            found.append(own)
    if rng.random() < 0.1:
        found.insert(rng.randrange(len(found)), rng.randrange(20))
    found = found[:rng.randrange(1, 9)]
    # Behind a goto any place may stand, also one to which the run does not go.
    if len(found) > 1 and rng.random() < 0.3:
        found[-1] = rng.randrange(16)
    return found


def drawn_offers(rng, machine, pair, worlds, most=6):
    """Offers of roads that are gone along, their rows often spoiled."""
    offers = []
    for _ in range(rng.randrange(most)):
        places = drawn_places(rng, machine, worlds)
        row = None
        world = rng.choice(worlds)
        road = None
        if all(place < 2 ** machine.word for place in places):
            road = along(machine, world, places)
        if road is not None and rng.random() < 0.85:
            row = rng.choice((template, trimmed))(pair, road)
            for _ in range(rng.choice((0, 0, 0, 1, 1, 2))):
                row = spoiled(rng, pair, row)
        offers.append((places, row))
    return offers


def worlds_of(machine, world, moment):
    return list(trail(machine, world, moment))


def drawn_limits(rng, moment):
    """Moments that never fall, the last one the given one."""
    found = sorted(rng.randrange(moment + 1) for _ in range(rng.randrange(4)))
    return found + [moment]


def long_pair(rng, book, rows, longest=8, width=None, registers=5):
    """A pair whose rule of num has so many rows, or that has no rule of num for 0 rows."""
    house = house_of(book.word, width or book.word, registers)
    rules = [rule for rule in house.rules if rule[0] != "num"]
    if rows:
        rules.append(("num", [("fill", "d", str(rng.randrange(16))) for _ in range(rows - 1)] + [("fill", "d", "n")]))
    return Pair(book, House(house.width, registers, ORDERS, rules), longest=longest)


def drawn_forced(rng, machine, pair, worlds):
    """Forced rows that fit the pair, whatever they do."""
    offers = drawn_offers(rng, machine, pair, worlds, 4)
    # In a wider house a spoiled row may hand over what is not a word of the guest book.
    same = pair.house.width == machine.word
    return [(places, row) for places, row in offers if same and row is not None and len(row.hands) == len(places) + 1]


def drawn_ways(rng, machine, pair, worlds, forced=False):
    """Keyword arguments of a fast machine."""
    ways = {"size": rng.randrange(1, 9), "picks": drawn_picks(rng), "links": rng.random() < 0.7,
            "plan": drawn_plan(rng, pair), "offers": drawn_offers(rng, machine, pair, worlds)}
    if forced:
        ways["forced"] = drawn_forced(rng, machine, pair, worlds)
    return ways


def jumping_book():
    """A book of jumps, so that offers along roads with gotos are made often."""
    return Book(4, 2, [
        ("inc", ("000a",), [("get", "a"), ("num", 1), ("add", 0, 1), ("put", "a", 2)]),
        ("jmp", ("0010", "nnnn"), [("num", "n"), ("goto", 0)]),
        ("skip", ("0011", "nnnn"), [("get", 0), ("num", 1), ("and", 0, 1), ("num", "n"), ("add", 3, 2), ("goto", 4)]),
        ("to", ("0100",), [("get", 1), ("goto", 0)]),
        ("st", ("0101",), [("get", 0), ("get", 1), ("write", 0, 1)]),
        ("say", ("0110",), [("get", 1), ("out", 0, 0)]),
        ("odd", ("0111",), [("get", 0), ("num", 1), ("and", 0, 1), ("must", 2, 14), ("put", 1, 0)]),
    ])


def jumping_case(rng):
    """A machine of the book of jumps, a pair, and a first world."""
    machine = drawn_machine(rng, 4, book=jumping_book(), processors=rng.choice((1, 1, 2)), events=rng.random() < 0.5)
    return machine, drawn_pair(rng, machine.book, longest=8), drawn_start(rng, machine)


def drawn_text(rng, machine, image):
    """The text of a world of the machine in which anything may stand that a text may write."""
    size, moment = 2 ** machine.word, rng.choice((0, 3, 15, 16, 100))
    turn = rng.randrange(len(machine.turns))
    words = lambda many, most: "".join(f" {rng.randrange(most)}" for _ in range(many))
    rows = [f"moment {moment}", "cells" + "".join(f" {word}" for word in image),
            "rights" + "".join(f" {rng.choice((7, 7, 7, 5, 6, 3))}" for _ in range(8)),
            f"turn {turn} {rng.randrange(1, machine.turns[turn][1] + 1)}", "typed" + words(rng.randrange(3), size)]
    q = lambda: rng.randrange(machine.processors)
    for _ in range(rng.choice((0, 0, 1, 2))):
        rows.append(f"shown {max(0, moment + rng.choice((-1, 0, 1, 3, 20)))} {q()} {rng.randrange(size)}")
    for _ in range(rng.choice((0, 0, 1))):
        rows.append(f"noted {moment + rng.choice((0, 1, 5))} {q()} {rng.randrange(16)} {rng.randrange(size)}")
    for number in range(machine.processors):
        signals = sorted(rng.sample(range(1, 8), rng.choice((0, 0, 0, 1, 3))))
        alarm = rng.choice(("none", "none", moment + rng.randrange(30), max(0, moment - 2)))
        rows += [f"processor {number}", "place" + words(1, size), "regs" + words(machine.book.registers, size),
                 "buffer" + words(2 * rng.randrange(machine.depth + 1), size), "lines" + "".join(f" {one}" for one in signals),
                 f"alarm {alarm}", f"vector {rng.choice(('none', rng.randrange(size)))}", "mode" + words(1, 2), "back" + words(1, size),
                 "cause" + words(1, 16), "kept" + words(1, size), "page" + words(1, 8),
                 f"status {rng.choice(('on', 'on', 'on', 'resting', 'stopped', 'fallen'))}"]
    return "".join(row + "\n" for row in rows)


# Sleeps at place 0; a signal leads to place 3, which goes back behind the sleep, and so to place 0 again.
SLEEPY = (1, 2, 0, 3)


def sleepy_machine(processors=2, turns=None, **more):
    """A machine that sleeps nearly all the time of a long run."""
    book = Book(4, 1, [("nap", ("0001",), [("num", 1), ("out", 7, 0)]), ("jmp", ("0010", "nnnn"), [("num", "n"), ("goto", 0)]),
                       ("back", ("0011",), [("in", 3), ("goto", 0)])])
    events = [(at, "line", at % processors, 5) for at in range(20, 100000, 9973)]
    events += [(at, "cell", 9, at % 16) for at in range(7, 100000, 15013)]
    turns = turns or [(q, 1000) for q in range(processors)]
    return Machine(book, processors=processors, turns=turns, events=events, **more)

"""Runs of roads and house rows for the tests, reckoned apart from the package, and drawn roads and rows."""

from helpers import OPS, operation
from housing import told_order
from model import run_lines
from selfwritten.errors import TooMany
from selfwritten.roads import road_of
from selfwritten.rows import Row

LATE_OPS = ("add", "sub", "and", "or", "xor", "less", "same")


def form_of(book, name):
    return [form for form in book.forms if form.name == name][0]


def road_run(book, pairs, regs, answers):
    """The run of a road against answers ([110]), and the places and registers gone through."""
    asks, left, place = [], list(answers), pairs[0][0]
    through = [(place, tuple(regs))]
    for i, (own, (name, numbers)) in enumerate(pairs):
        place = own
        more, handed = run_lines(book, form_of(book, name), numbers, place, regs, left)
        asks += more
        left = left[len(more):]
        cause, done, after, new = handed
        if done == 0:
            return (tuple(asks), (cause, i, place, tuple(regs))), through
        through.append((after, new))
        if i + 1 == len(pairs) or after != pairs[i + 1][0]:
            return (tuple(asks), (None, i + 1, after, new)), through
        asks.append(("tick",))
        answer = left.pop(0) if left else None
        if answer is None:
            return (tuple(asks), (None, i + 1, after, new)), through
        regs = new


def row_run(pair, row, place, regs, answers):
    """The run of a house row against answers ([101]), with its count."""
    house, many = pair.house, len(regs)
    words = [0] * house.registers
    slots = {**dict(enumerate(regs)), many: place}
    asks, left, ticks = [], list(answers), 0

    def hand(index):
        told = []
        for entry in row.late:
            if entry[0] in OPS:
                told.append(operation(entry[0], told[entry[1]], told[entry[2]], house.width))
            else:
                told.append({"slot": lambda s: slots.get(s, 0), "reg": lambda r: words[r] if r < len(words) else 0,
                             "num": lambda v: v}[entry[0]](entry[1]))
        found = [told[at] for at in row.hands[index]]
        return found[0], tuple(found[1:])

    for at, (name, *rest) in enumerate(row.steps):
        ask = {"read": lambda: ("read", words[rest[1]]), "in": lambda: ("in", rest[1]),
               "write": lambda: ("write", words[rest[0]], words[rest[1]]), "out": lambda: ("out", rest[0], words[rest[1]]),
               "tick": lambda: ("tick",)}.get(name, lambda: None)()
        answer = None
        if ask is not None:
            asks.append(ask)
            answer = left.pop(0) if left else None
            if answer is None:
                boundary = ticks + (name == "tick")
                return tuple(asks), ({"read": 10, "write": 11}.get(name), boundary, *hand(boundary)), at + 1
        if name == "order":
            d, x, y, n = rest[1:]
            words[d] = told_order(house, rest[0], {"d": words[d], "x": words[x], "y": words[y], "n": n})
        elif name == "load":
            words[rest[0]] = slots.get(rest[1], 0)
        elif name == "save":
            slots[rest[0]] = words[rest[1]]
        elif name in ("read", "in"):
            words[rest[0]] = answer
        elif name == "tick":
            ticks += 1
        elif name == "must" and words[rest[0]] == 0:
            return tuple(asks), (rest[1], ticks, *hand(ticks)), at + 1
        elif name == "end" or (name == "keep" and words[rest[0]] != rest[1]):
            return tuple(asks), (None, ticks + 1, *hand(ticks + 1)), at + 1


def all_answers(run, word):
    """All runs of something that is run against answers: triples (answers, asks, handed)."""
    waiting = [()]
    while waiting:
        answers = waiting.pop()
        told = run(answers)
        asks, handed = told[0], told[1]
        if len(asks) == len(answers):
            yield answers, asks, handed
        else:
            yield answers + (None,), asks, handed
            many = 2 ** word if asks[-1][0] in ("read", "in") else 1
            waiting.extend([answers + (answer,) for answer in range(many)])


def registers_below(word, many):
    rows = [()]
    for _ in range(many):
        rows = [row + (word_of,) for row in rows for word_of in range(2 ** word)]
    return rows


def first_unlike(one, other, word, many):
    """Registers and answers for which two calls (regs, answers) give unlike runs, all of them tried; or None."""
    for regs in registers_below(word, many):
        for answers, asks, handed in all_answers(lambda told: one(regs, told), word):
            if tuple(other(regs, answers)[:2]) != (asks, handed):
                return regs, answers
    return None


def drawn_pairs(rng, book, many, place=None):
    """The places and instructions of a drawn road; behind a goto often a place where the road was."""
    size, pairs = 2 ** book.word, []
    place = rng.randrange(size) if place is None else place
    while len(pairs) < many:
        form = rng.choice(book.forms)
        numbers = tuple(rng.randrange(2 ** bits) for _, bits in form.letters)
        pairs.append((place, (form.name, numbers)))
        place = (place + form.size) % size
        if any(line[0] == "goto" for line in form.lines):
            nearby = [own for own, _ in pairs] + [place, rng.randrange(size)] + list(numbers)
            place = rng.choice(nearby) % size
    return pairs


def drawn_road(rng, book, many, place=None):
    return road_of(book, drawn_pairs(rng, book, many, place))


def reads_of(book, road):
    """How many reads and ins the lines of a road have."""
    return sum(line[0] in ("read", "in") for name, _ in road.instructions for line in form_of(book, name).lines)


def spoiled(rng, pair, row):
    """The row with one step, late word or hand changed, left out or standing twice; it still fits the pair."""
    steps, late, hands = list(row.steps), list(row.late), list(row.hands)
    kind = rng.choice(("step", "step", "drop", "twice", "late", "hand"))
    at = rng.randrange(len(steps))
    registers, top = pair.house.registers - 1, 2 ** pair.book.word - 1
    if kind == "hand" or (kind != "late" and steps[at][0] in ("end", "tick")):
        at = rng.randrange(len(hands))
        hand = list(hands[at])
        hand[rng.randrange(len(hand))] = rng.randrange(len(late))
        hands[at] = tuple(hand)
    elif kind == "late":
        at = rng.randrange(len(late))
        late[at] = rng.choice((("slot", rng.randrange(8)), ("num", rng.randrange(top + 1)), ("reg", rng.randrange(registers))))
    elif kind == "drop":
        del steps[at]
    elif kind == "twice":
        steps.insert(at, steps[at])
    else:
        step = list(steps[at])
        spot = rng.randrange(1, len(step))
        if step[0] == "must" and spot == 2:
            step[2] = 12 + (step[2] - 11) % 4
        elif step[0] == "keep" and spot == 2:
            step[2] = (step[2] + 1) % (top + 1)
        elif (step[0], spot) in (("in", 2), ("out", 1)):
            step[spot] = (step[spot] + 1) % 6
        elif step[0] == "order" and spot in (1, 5):
            spot = 2
            step[2] = (step[2] + 1) % 3
        elif step[0] == "order":
            letters = pair.house.order_named(step[1])[1]
            if spot == 2 or "dxyn"[spot - 2] in letters:
                step[spot] = (step[spot] + 1) % 3
        else:
            step[spot] = (step[spot] + 1) % 3
        steps[at] = tuple(step)
    return Row(steps, late, hands)


def or_too_many(call, *rest):
    """What the call returns, or the string TooMany."""
    try:
        return call(*rest)
    except TooMany:
        return "TooMany"

"""Houses and pairs for the tests, and what their orders and rules leave, reckoned apart from the package."""

from helpers import OPS, operation
from selfwritten.houses import House
from selfwritten.pairs import Pair

ORDERS = [
    ("plus", "dxy", ("add", "x", "y")),
    ("minus", "dxy", ("sub", "x", "y")),
    ("both", "dxy", ("and", "x", "y")),
    ("either", "dxy", ("or", "x", "y")),
    ("apart", "dxy", ("xor", "x", "y")),
    ("below", "dxy", ("less", "x", "y")),
    ("alike", "dxy", ("same", "x", "y")),
    ("mask", "dxn", ("and", "x", "n")),
    ("flip", "dxn", ("xor", "x", "n")),
    ("more", "dxn", ("add", "x", "n")),
    ("equal", "dxn", ("same", "x", "n")),
    ("fill", "dn", ("n",)),
]

MASK = ("mask", "d", "d", "ones")

# Right rules of each operation, the plain one first; those of add and sub need MASK behind them if K > k.
WAYS = {
    "add": [[("plus", "d", "x", "y")], [("plus", "d", "y", "x")],
            [("either", "u", "x", "y"), ("both", "v", "x", "y"), ("plus", "d", "u", "v")]],
    "sub": [[("minus", "d", "x", "y")], [("flip", "d", "y", "ones"), ("plus", "d", "d", "x"), ("more", "d", "d", "1")]],
    "and": [[("both", "d", "x", "y")], [("either", "u", "x", "y"), ("plus", "d", "x", "y"), ("minus", "d", "d", "u")]],
    "or": [[("either", "d", "x", "y")], [("both", "u", "x", "y"), ("apart", "d", "x", "y"), ("plus", "d", "d", "u")]],
    "xor": [[("apart", "d", "x", "y")], [("either", "d", "x", "y"), ("both", "u", "x", "y"), ("minus", "d", "d", "u")]],
    "less": [[("below", "d", "x", "y")]],
    "same": [[("alike", "d", "x", "y")], [("apart", "d", "x", "y"), ("equal", "d", "d", "0")]],
    "num": [[("fill", "d", "n")], [("fill", "d", "3"), ("fill", "d", "0"), ("more", "d", "d", "n")]],
}


def rule_of(op, way, word, width):
    rows = list(WAYS[op][way])
    return (op, rows + [MASK] if op in ("add", "sub") and width > word else rows)


def house_of(word, width, registers=5, ways=None, ops=(*OPS, "num")):
    """A house with a right rule of each operation; ways tells for some which one."""
    ways = ways or {}
    return House(width, registers, ORDERS, [rule_of(op, ways.get(op, 0), word, width) for op in ops])


def drawn_house(rng, word, width, registers):
    """A house with drawn right rules."""
    ways = {}
    for op, rows in WAYS.items():
        free = [at for at, way in enumerate(rows) if registers >= most_named(way)]
        ways[op] = rng.choice(free)
    return house_of(word, width, registers, ways)


def most_named(way):
    """How many house registers there must be for these rows."""
    names = {operand for row in way for operand in row[1:]}
    return 5 if "v" in names else 4 if "u" in names else 3


def pair_of(book, width=None, registers=5, longest=8, **more):
    width = width or book.word
    return Pair(book, house_of(book.word, width, registers, **more), longest=longest)


def told_term(tokens, words, width):
    """The word of a term in prefix form, and how many tokens it has."""
    if tokens[0] in OPS:
        one, used = told_term(tokens[1:], words, width)
        other, more = told_term(tokens[1 + used:], words, width)
        return operation(tokens[0], one, other, width), 1 + used + more
    return (words[tokens[0]] if tokens[0] in words else int(tokens[0])), 1


def told_order(house, name, words):
    """The word that an order leaves; words has those of d, x, y and n."""
    tokens = [tokens for own, _, tokens in house.orders if own == name][0]
    return told_term(tokens, words, house.width)[0]


def told_rule(house, word, rule, words):
    """The word that a rule leaves."""
    op, rows = rule
    held = dict(zip("nduv" if op == "num" else "xyduv", words))
    for name, *operands in rows:
        letters = [letters for own, letters, _ in house.orders if own == name][0]
        told = {}
        for letter, operand in zip(letters, operands):
            if letter == "n" and operand == "ones":
                told["n"] = 2 ** word - 1
            elif letter == "n" and operand.isdigit():
                told["n"] = int(operand)
            else:
                told[letter] = held[operand]
        held[operands[0]] = told_order(house, name, told)
    return held["d"]

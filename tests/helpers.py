"""Helpers of the tests: refusals as tuples, and terms that need no pool."""

from selfwritten.errors import Refusal


def refusal(call, *rest, **more):
    """The error that a call raises: a tuple of its class name and its attributes in order."""
    try:
        call(*rest, **more)
    except Refusal as error:
        return (type(error).__name__, *vars(error).values())
    return None


WRONG_NUMBERS = (True, False, None, "1", 1.0, (1,), [1], b"1")
WRONG_ROWS = (None, 0, "01", {0: 1}, {0, 1}, b"01", range(2))


def rows_below(limits):
    """All rows of words below these limits."""
    rows = [()]
    for limit in limits:
        rows = [row + (word,) for row in rows for word in range(2 ** limit)]
    return rows


def operation(name, x, y, width):
    """The word of an operation, reckoned apart from the package."""
    size = 2 ** width
    if name == "add":
        return (x + y) % size
    if name == "sub":
        return (x - y) % size
    if name in ("less", "same"):
        return int(x < y) if name == "less" else int(x == y)
    word = 0
    for at in range(width):
        bits = (x // 2 ** at % 2, y // 2 ** at % 2)
        if bits == (1, 1) and name in ("and", "or"):
            word += 2 ** at
        if sum(bits) == 1 and name in ("or", "xor"):
            word += 2 ** at
    return word


OPS = ("add", "sub", "and", "or", "xor", "less", "same")


def term(rng, deep, unknowns, width, ops=OPS):
    """A term as a nested tuple: ("get", i), ("num", v) or (op, term, term)."""
    if deep == 0 or rng.random() < 0.15:
        if rng.random() < 0.7:
            return ("get", rng.randrange(unknowns))
        return ("num", rng.choice((0, 1, 2 ** width - 1, rng.randrange(2 ** width))))
    left = term(rng, deep - 1, unknowns, width, ops)
    right = left if rng.random() < 0.1 else term(rng, deep - 1, unknowns, width, ops)
    return (rng.choice(ops), left, right)


def word_of(tree, words, width):
    """The word of a term."""
    if tree[0] == "get":
        return words[tree[1]]
    if tree[0] == "num":
        return tree[1]
    return operation(tree[0], word_of(tree[1], words, width), word_of(tree[2], words, width), width)


def part_of(pool, tree):
    """The part of a term."""
    if tree[0] == "get":
        return pool.unknown(tree[1])
    if tree[0] == "num":
        return pool.num(tree[1])
    return pool.apply(tree[0], part_of(pool, tree[1]), part_of(pool, tree[2]))


def tokens_of(tree):
    """The tokens of a term in prefix form."""
    if tree[0] == "get":
        return ["g" + str(tree[1])]
    if tree[0] == "num":
        return [str(tree[1])]
    return [tree[0]] + tokens_of(tree[1]) + tokens_of(tree[2])


def keeps(pool, demands, words):
    """Whether the words keep all demands."""
    return all((pool.value(part, words) != 0) == wanted for part, wanted in demands)

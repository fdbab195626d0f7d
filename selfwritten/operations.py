"""The seven operations on words, and how an operation is shortened."""

OPS = ("add", "sub", "and", "or", "xor", "less", "same")

# Operations whose operands may change places.
EITHER_WAY = ("add", "and", "or", "xor", "same")


def op_word(name, one, other, width):
    """The word that the operation gives on two words of this width."""
    if name == "add":
        return (one + other) & ((1 << width) - 1)
    if name == "sub":
        return (one - other) & ((1 << width) - 1)
    if name == "and":
        return one & other
    if name == "or":
        return one | other
    if name == "xor":
        return one ^ other
    if name == "less":
        return 1 if one < other else 0
    return 1 if one == other else 0


def shortened(name, first, second, equal, most):
    """What an operation is without being done, or None.

    first and second are the words of the operands, None for one that is no
    word; equal tells whether both are the same part; most is the word of all
    ones. The result is "one" or "other" for an operand, "zero" or "unit" for
    the words 0 and 1.
    """
    if name in ("add", "or", "xor"):
        if first == 0:
            return "other"
        if second == 0:
            return "one"
    if name == "and":
        return shortened_and(first, second, equal, most)
    if second == 0 and name == "sub":
        return "one"
    if second == 0 and name == "less":
        return "zero"
    if equal:
        return shortened_twice(name)
    return None


def shortened_and(first, second, equal, most):
    """As shortened, for `and`."""
    if first == 0 or second == 0:
        return "zero"
    if first == most:
        return "other"
    if second == most or equal:
        return "one"
    return None


def shortened_twice(name):
    """As shortened, for an operation on one part twice."""
    if name in ("sub", "xor", "less"):
        return "zero"
    if name == "or":
        return "one"
    if name == "same":
        return "unit"
    return None

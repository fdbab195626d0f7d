"""What orders of a house leave."""

from selfwritten.operations import OPS, op_word
from selfwritten.prefixes import part_of_words


def order_word(house, name, d, x, y, n):
    """The word that the order of this name leaves from these words."""
    _, _, tokens = house.order_named(name)
    words = {"d": d, "x": x, "y": y, "n": n}
    # The words of the terms behind the token, the nearest one last.
    behind = []
    for token in reversed(tokens):
        if token in OPS:
            one = behind.pop()
            behind.append(op_word(token, one, behind.pop(), house.width))
        else:
            behind.append(words[token] if token in words else int(token))
    return behind.pop()


def order_part(pool, house, name, d, x, y, n):
    """The part that the order of this name leaves from these parts."""
    _, letters, tokens = house.order_named(name)
    told = {"d": d, "x": x, "y": y, "n": n}
    return part_of_words(pool, tokens, {letter: told[letter] for letter in letters})

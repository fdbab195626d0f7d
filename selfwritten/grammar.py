"""The lines of forms: what stands behind the first entry of each kind.

One sign for each entry: r a register, v a word, i a value line ahead,
p a port of in, q a port of out, c a cause.
"""

from selfwritten.tokens import number_of
from selfwritten.widths import is_int, is_row

ENTRIES = {
    "get": "r",
    "num": "v",
    "here": "",
    "next": "",
    "add": "ii",
    "sub": "ii",
    "and": "ii",
    "or": "ii",
    "xor": "ii",
    "less": "ii",
    "same": "ii",
    "read": "i",
    "in": "p",
    "must": "ic",
    "write": "ii",
    "out": "qi",
    "put": "ri",
    "goto": "i",
}

VALUES = ("get", "num", "here", "next", "add", "sub", "and", "or", "xor", "less", "same", "read", "in")
EFFECTS = ("write", "in", "out")

REGISTER_LETTERS = "abc"
NUMBER_LETTERS = "mn"


def letters_for(sign):
    """The letters that may stand for an entry of this sign."""
    if sign == "r":
        return REGISTER_LETTERS
    return NUMBER_LETTERS if sign == "v" else ""


def line_of(tokens):
    """The line that the tokens of a text line write, or None."""
    if tokens[0] not in ENTRIES:
        return None
    signs = ENTRIES[tokens[0]]
    if len(tokens) != len(signs) + 1:
        return None
    line = [tokens[0]]
    for sign, token in zip(signs, tokens[1:]):
        number = number_of(token)
        if number is None and token not in list(letters_for(sign)):
            return None
        line.append(token if number is None else number)
    return tuple(line)


class Grammar:
    """What may stand in the lines of one form."""

    def __init__(self, word, registers, letters):
        own = [letter for letter, _ in letters]
        self.letters = {sign: [one for one in letters_for(sign) if one in own] for sign in "rvipqc"}
        self.numbers = {
            "r": list(range(registers)),
            "v": list(range(1 << word)),
            "p": list(range(6)),
            "q": list(range(10)),
            "c": list(range(12, 16)),
        }

    def is_line(self, line, values):
        """Whether this is a line; values are the numbers of the value lines ahead."""
        if not is_row(line) or len(line) == 0:
            return False
        if not isinstance(line[0], str) or line[0] not in ENTRIES:
            return False
        signs = ENTRIES[line[0]]
        if len(line) != len(signs) + 1:
            return False
        return all([self.is_entry(sign, entry, values) for sign, entry in zip(signs, line[1:])])

    def is_entry(self, sign, entry, values):
        if isinstance(entry, str):
            return entry in self.letters[sign]
        return is_int(entry) and entry in (values if sign == "i" else self.numbers[sign])

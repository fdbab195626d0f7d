"""The patterns of a form: where the bits of its letters lie in its cells."""

LETTERS = "abcmn"


def letters_of(patterns):
    """Pairs (letter, bits) for the letters that stand in the patterns."""
    signs = "".join(patterns)
    return tuple([(letter, signs.count(letter)) for letter in LETTERS if letter in signs])


def fits(pattern, word):
    """Whether each 0 and 1 of the pattern is that bit of the word."""
    mask, bits = fixed_bits(pattern)
    return word & mask == bits


def fixed_bits(pattern):
    """Two words: one with a 1 where the sign is 0 or 1, one with a 1 where it is 1."""
    places = list(enumerate(pattern[::-1]))
    mask = sum([1 << at for at, sign in places if sign in "01"])
    return mask, sum([1 << at for at, sign in places if sign == "1"])


def numbers_in(patterns, cells):
    """The numbers of the letters in a code."""
    found = {letter: 0 for letter, _ in letters_of(patterns)}
    for pattern, cell in zip(patterns, cells):
        for sign, bit in _bits(pattern, cell):
            if sign in found:
                found[sign] = found[sign] * 2 + int(bit)
    return tuple(found.values())


def cells_of(patterns, numbers):
    """The code in which the letters have these numbers."""
    digits = {}
    for (letter, bits), number in zip(letters_of(patterns), numbers):
        digits[letter] = _digits(number, bits)
    used = {letter: 0 for letter in digits}
    cells = []
    for pattern in patterns:
        cell = 0
        for sign in pattern:
            bit = sign
            if sign in digits:
                bit = digits[sign][used[sign]]
                used[sign] += 1
            cell = cell * 2 + int(bit)
        cells.append(cell)
    return tuple(cells)


def fixed(patterns):
    """How many signs are 0 or 1."""
    signs = "".join(patterns)
    return signs.count("0") + signs.count("1")


def _bits(pattern, word):
    """Pairs of a sign and its bit in the word, the highest bit first."""
    return list(zip(pattern, _digits(word, len(pattern))))


def _digits(number, many):
    """The lowest bits of a number as a string, the highest of them first."""
    return "".join([str((number >> at) & 1) for at in reversed(range(many))])

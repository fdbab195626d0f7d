"""Tokens of texts."""

MOST_DIGITS = 40


def number_of(token):
    """The number that a string writes in base ten, or None.

    It has no sign and no zero ahead of another digit. Longer ones than any
    text may have are none, so that no string is too long to be read.
    """
    if not 1 <= len(token) <= MOST_DIGITS:
        return None
    if not token.isascii() or not token.isdigit():
        return None
    if token[0] == "0" and len(token) > 1:
        return None
    return int(token)


def finished_lines(text):
    """A pair: the tokens of each line that ends with a line feed, and what follows."""
    pieces = text.split("\n")
    rest = pieces.pop()
    return [piece.split(" ") for piece in pieces], rest


def headed_number(tokens, name):
    """The number of a line of this name and one number, or None."""
    if len(tokens) != 2 or tokens[0] != name:
        return None
    return number_of(tokens[1])


def written_line(entries):
    """The text line of a row of strings and numbers."""
    return " ".join([str(entry) for entry in entries]) + "\n"

"""Parts as texts in prefix form."""

from selfwritten.errors import BadWords, TooMany
from selfwritten.operations import OPS
from selfwritten.tokens import number_of
from selfwritten.widths import is_row, ones

MOST_TOKENS = 400


def part_text(pool, part):
    """The prefix text of a part."""
    if _size(pool, part) > MOST_TOKENS:
        raise TooMany("words")
    tokens = []
    waiting = [part]
    while waiting:
        row = pool.part(waiting.pop())
        if row[0] == "num":
            tokens.append(str(row[1]))
        elif row[0] == "get":
            tokens.append(f"g{row[1]}")
        else:
            tokens.append(row[0])
            waiting.extend([row[2], row[1]])
    return " ".join(tokens)


def _size(pool, part):
    """How many tokens the text has."""
    sizes = {}
    for number in pool.reached(part):
        row = pool.part(number)
        if len(row) == 3:
            sizes[number] = 1 + sizes[row[1]] + sizes[row[2]]
        else:
            sizes[number] = 1
    return sizes[part]


def part_of_words(pool, words, letters):
    """The part that a row of tokens writes; letters has the parts of further tokens."""
    _check_tokens(pool, words, letters)
    # Operations that wait for operands, each with its first one or None.
    waiting = []
    part = None
    for token in words:
        if token in OPS:
            waiting.append((token, None))
            continue
        part = _operand(pool, token, letters)
        while waiting and waiting[-1][1] is not None:
            name, one = waiting.pop()
            part = pool.apply(name, one, part)
        if waiting:
            name, _ = waiting.pop()
            waiting.append((name, part))
    return part


def _operand(pool, token, letters):
    value = _word_of(pool, token)
    return letters[token] if value is None else pool.num(value)


def _word_of(pool, token):
    """The word of the pool's width that a token writes, or None."""
    value = number_of(token)
    return value if value is not None and value <= ones(pool.width) else None


def _check_tokens(pool, words, letters):
    if not is_row(words):
        raise BadWords(-1)
    missing = 1
    for at, token in enumerate(words):
        if missing == 0 or not isinstance(token, str):
            raise BadWords(at)
        if token in OPS:
            missing += 1
        elif _word_of(pool, token) is not None or token in letters:
            missing -= 1
        else:
            raise BadWords(at)
    if missing > 0:
        raise BadWords(len(words))

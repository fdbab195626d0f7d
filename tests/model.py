"""Books and runs for the tests, drawn and reckoned apart from the package."""

from helpers import operation
from selfwritten.books import Book

VALUE_OPS = ("add", "sub", "and", "or", "xor", "less", "same")


def numbers_of(form):
    """All rows of numbers of the form's letters."""
    rows = [()]
    for _, bits in form.letters:
        rows = [row + (number,) for row in rows for number in range(2 ** bits)]
    return rows


def code_of(form, numbers):
    """The code in which the letters have these numbers, sign by sign."""
    bits = {letter: list(format(number, "b").zfill(many)) for (letter, many), number in zip(form.letters, numbers)}
    cells = []
    for pattern in form.patterns:
        signs = [bits[sign].pop(0) if sign in bits else sign for sign in pattern]
        cells.append(int("".join(signs), 2))
    return tuple(cells)


def matches(pattern, word):
    """Whether each 0 and 1 of the pattern is that bit of the word."""
    bits = format(word, "b").zfill(len(pattern))
    return all(sign not in "01" or sign == bit for sign, bit in zip(pattern, bits))


def is_code(form, row):
    """Whether the row of words is a code of the form."""
    return len(row) == form.size and all(matches(*pair) for pair in zip(form.patterns, row))


def codes_of(form):
    """A dict from each code of the form to the row of numbers."""
    return {code_of(form, numbers): numbers for numbers in numbers_of(form)}


class Stop(Exception):
    """A run has no more answers, and this ask is next."""


def run_lines(book, form, numbers, place, regs, answers, rest=None):
    """The run of an instruction; behind the answers every ask gets `rest`, or raises Stop if it is "stop"."""
    size = 2 ** book.word
    told = {letter: number for (letter, _), number in zip(form.letters, numbers)}
    words, asks, puts = {}, [], []
    after = (place + form.size) % size
    ahead = list(answers)
    for number, line in enumerate(form.lines):
        kind, *entries = line
        if kind == "get":
            words[number] = regs[told.get(entries[0], entries[0])]
        elif kind == "num":
            words[number] = told.get(entries[0], entries[0])
        elif kind == "here":
            words[number] = place
        elif kind == "next":
            words[number] = (place + form.size) % size
        elif kind in VALUE_OPS:
            words[number] = operation(kind, words[entries[0]], words[entries[1]], book.word)
        elif kind == "must":
            if words[entries[0]] == 0:
                return tuple(asks), (entries[1], 0, place, tuple(regs))
        elif kind == "put":
            puts.append((told.get(entries[0], entries[0]), words[entries[1]]))
        elif kind == "goto":
            after = words[entries[0]]
        else:
            if kind == "in":
                ask = ("in", entries[0])
            elif kind == "out":
                ask = ("out", entries[0], words[entries[1]])
            else:
                ask = (kind, *[words[entry] for entry in entries])
            asks.append(ask)
            if not ahead and rest == "stop":
                raise Stop(ask)
            answer = ahead.pop(0) if ahead else rest
            if answer is None:
                cause = {"read": 10, "write": 11}.get(kind)
                return tuple(asks), (cause, 0, place, tuple(regs))
            words[number] = answer
    new = list(regs)
    for register, word in puts:
        new[register] = word
    return tuple(asks), (None, 1, after, tuple(new))


def is_whole(asks, answers, handed):
    """Whether no effect was answered yes without the instruction being done."""
    yes = [ask[0] for ask, answer in zip(asks, answers) if answer is not None]
    return handed[1] == 1 or not {"write", "in", "out"} & set(yes)


def rows_of_words(word, many):
    """All rows of so many words."""
    rows = [()]
    for _ in range(many):
        rows = [row + (entry,) for row in rows for entry in range(2 ** word)]
    return rows


def all_runs(book, form, numbers, place, regs):
    """Each run against all answers: triples (asks, answers, handed)."""
    waiting = [()]
    while waiting:
        answers = waiting.pop()
        try:
            asks, handed = run_lines(book, form, numbers, place, regs, answers, "stop")
        except Stop as stop:
            kind = stop.args[0][0]
            yes = range(2 ** book.word) if kind in ("read", "in") else (0,)
            waiting.extend([answers + (answer,) for answer in (None, *yes)])
            continue
        yield asks, answers, handed


def drawn_lines(rng, word, registers, letters, many, half=False):
    """So many lines that a form with these letters may have; with `half`, many musts and reads."""
    own = [letter for letter in letters if letter in "abc"]
    numbers = [letter for letter in letters if letter in "mn"]
    lines, values, effect, goto = [], [], False, False
    kinds = ["get", "num", "here", "next", *VALUE_OPS, "read", "in", "must", "write", "out", "put", "goto"]
    if half:
        kinds = ["get", "num", "add", "or", "xor", "less", "same", "read", "in", "must", "must", "write", "out"]
    while len(lines) < many:
        kind = rng.choice(kinds)
        register = rng.choice(own + list(range(registers)))
        if not values and kind not in ("get", "num", "here", "next", "in"):
            continue
        if (kind in ("in", "out", "write") and effect) or (kind == "goto" and goto):
            continue
        if kind == "get":
            line = (kind, register)
        elif kind == "num":
            line = (kind, rng.choice(numbers + [0, 1, 2 ** word - 1, rng.randrange(2 ** word)]))
        elif kind in ("here", "next"):
            line = (kind,)
        elif kind in VALUE_OPS or kind == "write":
            line = (kind, rng.choice(values), rng.choice(values))
        elif kind in ("read", "goto"):
            line = (kind, rng.choice(values))
        elif kind == "in":
            line = (kind, rng.randrange(6))
        elif kind == "must":
            line = (kind, rng.choice(values), rng.randrange(12, 16))
        elif kind == "out":
            line = (kind, rng.randrange(10), rng.choice(values))
        else:
            line = (kind, register, rng.choice(values))
        effect = effect or kind in ("in", "out", "write")
        goto = goto or kind == "goto"
        if kind in ("get", "num", "here", "next", *VALUE_OPS, "read", "in"):
            values.append(len(lines))
        lines.append(line)
    return lines


def drawn_patterns(rng, word, registers, size, signs="0011abcmn"):
    """Patterns that a book with so many registers lets by."""
    most = {1: 0, 2: 1, 3: 1, 4: 2}[registers]
    left = {letter: most for letter in "abc"} | {letter: word for letter in "mn"}
    patterns = []
    for _ in range(size):
        pattern = ""
        while len(pattern) < word:
            sign = rng.choice(signs)
            if sign in "01":
                pattern += sign
            elif left[sign] > 0:
                left[sign] -= 1
                pattern += sign
        patterns.append(pattern)
    return patterns


def drawn_book(rng, word, registers, many, signs="0011abcmn", lines=8, half=False):
    """A book of so many forms of one to three cells; its forms may share beginnings, or be half."""
    forms = []
    for number in range(many):
        patterns = drawn_patterns(rng, word, registers, rng.choice((1, 1, 2, 2, 3)), signs)
        letters = sorted(set("".join(patterns)) & set("abcmn"))
        row = drawn_lines(rng, word, registers, letters, rng.randrange(lines + 1), half)
        forms.append(("f" + "abcdefghijklmnopqrstuvwxyzabcdef"[number] + "x" * (number // 26), patterns, row))
    return Book(word, registers, forms)


def drawn_apart(rng, word, registers, many, signs="0011abcmn", lines=8, half=False):
    """A book of at most so many forms, none of which share a beginning."""
    chosen = []
    for form in drawn_book(rng, word, registers, many, signs, lines, half).forms:
        if not any(share(form, other) for other in chosen):
            chosen.append(form)
    return Book(word, registers, [(form.name, form.patterns, form.lines) for form in chosen])


def share(one, other):
    """Whether no place of the shorter form has 0 in one and 1 in the other."""
    for first, second in zip("".join(one.patterns), "".join(other.patterns)):
        if {first, second} == {"0", "1"}:
            return False
    return True

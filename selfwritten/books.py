"""Guest books: what rows of cells are codes, and what each code does."""

from selfwritten.errors import BadBook, BadLine, BadSource
from selfwritten.grammar import EFFECTS, REGISTER_LETTERS, VALUES, Grammar, line_of
from selfwritten.patterns import fixed_bits, letters_of
from selfwritten.tokens import finished_lines, headed_number, written_line
from selfwritten.widths import check_int, is_row

MOST_FORMS = 32
MOST_PATTERNS = 3
MOST_LINES = 12
SMALL_LETTERS = "abcdefghijklmnopqrstuvwxyz"


class Form:
    """A form of a book: its name, patterns and lines."""

    def __init__(self, name, patterns, lines):
        self.name = name
        self.patterns = patterns
        self.lines = lines
        self.size = len(patterns)
        self.letters = letters_of(patterns)
        self.effect = _first_of(lines, EFFECTS)
        self.goto = _first_of(lines, ("goto",))
        self.fixed = tuple([fixed_bits(pattern) for pattern in patterns])

    def may_begin(self, cells):
        """Whether each 0 and 1 of the patterns of these first cells is that bit there."""
        for (mask, bits), cell in zip(self.fixed, cells):
            if cell & mask != bits:
                return False
        return True


class Book:
    """A guest book."""

    def __init__(self, word, registers, forms):
        self.word = check_int(word, 4, 8, "word")
        self.registers = check_int(registers, 1, 4, "registers")
        self.forms = _checked_forms(word, registers, forms)
        self._named = {form.name: form for form in self.forms}
        self._text = _written(self)

    @classmethod
    def read(cls, text):
        """The book that the text writes."""
        word, registers, forms = _parsed(text)
        return cls(word, registers, forms)

    def text(self):
        return self._text

    def form_named(self, name):
        """The form with this name."""
        if not isinstance(name, str) or name not in self._named:
            raise BadSource(0)
        return self._named[name]

    def __eq__(self, other):
        return isinstance(other, Book) and self._text == other._text


def _first_of(lines, names):
    """The number of the first line of these names, or None."""
    for number, line in enumerate(lines):
        if line[0] in names:
            return number
    return None


def is_name(name):
    """Whether this is a string of 1 to 8 small letters."""
    if not isinstance(name, str) or not 1 <= len(name) <= 8:
        return False
    return all([sign in SMALL_LETTERS for sign in name])


def _checked_forms(word, registers, forms):
    """The tuple of the forms, after all checks."""
    if not is_row(forms) or not 1 <= len(forms) <= MOST_FORMS:
        raise BadBook("", -1)
    made = []
    for entry in forms:
        if not is_row(entry) or len(entry) != 3:
            raise BadBook("", -1)
        name, patterns, lines = entry
        if not is_name(name) or name in [form.name for form in made]:
            raise BadBook(name, -1)
        if not _are_patterns(word, registers, patterns):
            raise BadBook(name, -1)
        if not is_row(lines) or len(lines) > MOST_LINES:
            raise BadBook(name, -1)
        wrong = _first_wrong(Grammar(word, registers, letters_of(patterns)), lines)
        if wrong is not None:
            raise BadBook(name, wrong)
        made.append(Form(name, tuple(patterns), tuple([tuple(line) for line in lines])))
    return tuple(made)


def _are_patterns(word, registers, patterns):
    if not is_row(patterns) or not 1 <= len(patterns) <= MOST_PATTERNS:
        return False
    if not all([_is_pattern(word, pattern) for pattern in patterns]):
        return False
    for letter, bits in letters_of(patterns):
        if letter in REGISTER_LETTERS and 1 << bits > registers:
            return False
        if bits > word:
            return False
    return True


def _is_pattern(word, pattern):
    if not isinstance(pattern, str) or len(pattern) != word:
        return False
    return all([sign in "01abcmn" for sign in pattern])


def _first_wrong(grammar, lines):
    """The number of the first wrong line, a second effect or goto too, or None."""
    values = []
    effects = 0
    gotos = 0
    for number, line in enumerate(lines):
        if not grammar.is_line(line, values):
            return number
        if line[0] in EFFECTS:
            effects += 1
        if line[0] == "goto":
            gotos += 1
        if effects > 1 or gotos > 1:
            return number
        if line[0] in VALUES:
            values.append(number)
    return None


def _written(book):
    """The text of a book."""
    rows = [("word", book.word), ("registers", book.registers)]
    for form in book.forms:
        rows.append(("form", form.name) + form.patterns)
        rows.extend(form.lines)
    return "".join([written_line(row) for row in rows])


def _parsed(text):
    """The word, the registers and the rows of forms that a text writes."""
    rows, rest = finished_lines(text)
    head = []
    forms = []
    for at, tokens in enumerate(rows):
        if at < 2:
            head.append(headed_number(tokens, ("word", "registers")[at]))
            good = head[at] is not None
        else:
            good = _took(forms, tokens)
        if not good:
            raise BadLine(at)
    # An unfinished line, or a missing one, is the line behind those.
    if rest != "" or len(rows) < 2:
        raise BadLine(len(rows))
    return head[0], head[1], forms


def _took(forms, tokens):
    """Whether these are the tokens of a line, which is put to the forms."""
    if tokens[0] == "form":
        if not 3 <= len(tokens) <= 5 or "" in tokens:
            return False
        forms.append((tokens[1], tokens[2:], []))
        return True
    line = line_of(tokens)
    if line is None or not forms:
        return False
    forms[-1][2].append(line)
    return True

"""Pairs of a guest book and a house book that fit."""

from selfwritten.checking import check_book
from selfwritten.errors import BadPair, NoRule
from selfwritten.lines import is_value
from selfwritten.operations import OPS
from selfwritten.patterns import cells_of
from selfwritten.rules import check_rules
from selfwritten.widths import check_int

MOST_LONGEST = 8

# Lines that need the rule of num.
NUMBERED = ("num", "here", "next")


class Pair:
    """A pair; it never changes."""

    def __init__(self, book, house, *, longest=8):
        check_book(book)
        if house.width < book.word:
            raise BadPair()
        self.longest = check_int(longest, 1, MOST_LONGEST, "longest")
        check_rules(house, book.word)
        self.book = book
        self.house = house
        self._rules = _shortest(house.rules)
        for form in book.forms:
            _check_form(self._rules, form)
        self._costs = {form.name: sum([self.line_cost(line) for line in form.lines]) for form in book.forms}
        self._c = max([self._costs[form.name] + (1 if form.goto is None else 3) for form in book.forms])
        values = max([_values(form) for form in book.forms])
        self._r = book.registers + 2 + longest * (values + 1)

    @property
    def c(self):
        return self._c

    @property
    def d(self):
        return self._c * self.longest

    @property
    def r(self):
        return self._r

    def rule_for(self, op):
        """The rule that is used for the operation, or for num."""
        if not isinstance(op, str) or op not in self._rules:
            raise NoRule(op, "", ())
        return self._rules[op]

    def line_cost(self, line):
        """How many house steps a line makes in a template row."""
        name = line[0]
        if name in NUMBERED:
            return 1 + len(self.rule_for("num")[1])
        if name in OPS:
            return 3 + len(self.rule_for(name)[1])
        return 3 if name in ("read", "write") else 2

    def cost(self, name):
        """The cost of the form of this name."""
        return self._costs[self.book.form_named(name).name]


def _shortest(rules):
    """A dict from each operation to its rule with the fewest rows, the first of these."""
    found = {}
    for op, rows in rules:
        if op not in found or len(rows) < len(found[op][1]):
            found[op] = (op, rows)
    return found


def _check_form(rules, form):
    """Raises at the first line that needs a rule which is not there."""
    for line in form.lines:
        op = "num" if line[0] in NUMBERED else line[0]
        if (op == "num" or op in OPS) and op not in rules:
            raise NoRule(op, form.name, cells_of(form.patterns, [0] * len(form.letters)))


def _values(form):
    """How many value lines a form has."""
    return len([line for line in form.lines if is_value(line)])

"""House books: the orders of a machine, and rules that make operations of them."""

from selfwritten.books import is_name
from selfwritten.errors import BadHouse, BadLine
from selfwritten.operations import OPS
from selfwritten.tokens import finished_lines, headed_number, number_of, written_line
from selfwritten.widths import check_int, is_row, ones

MOST_ORDERS = 24
MOST_TOKENS = 31
MOST_RULES = 24
MOST_ROWS = 40
LETTERS = ("d", "dx", "dy", "dn", "dxy", "dxn", "dyn", "dxyn")


class House:
    """A house book."""

    def __init__(self, width, registers, orders, rules):
        self.width = check_int(width, 4, 12, "width")
        self.registers = check_int(registers, 3, 8, "registers")
        self.orders = _checked_orders(width, orders)
        self._named = {order[0]: order for order in self.orders}
        self.rules = _checked_rules(self, rules)

    @classmethod
    def read(cls, text):
        """The house that the text writes."""
        width, registers, orders, rules = _parsed(text)
        return cls(width, registers, orders, rules)

    def text(self):
        rows = [("width", self.width), ("registers", self.registers)]
        for name, letters, tokens in self.orders:
            rows.append(("order", name, letters) + tokens)
        for op, lines in self.rules:
            rows.append(("rule", op) + _joined(lines))
        return "".join([written_line(row) for row in rows])

    def order_named(self, name):
        """The order of this name."""
        if not isinstance(name, str) or name not in self._named:
            raise BadHouse("order", -1)
        return self._named[name]

    def __eq__(self, other):
        if not isinstance(other, House) or self.width != other.width or self.registers != other.registers:
            return False
        return self.orders == other.orders and self.rules == other.rules


def _joined(lines):
    """The tokens of the rows of a rule, with / between two rows."""
    tokens = lines[0]
    for line in lines[1:]:
        tokens = tokens + ("/",) + line
    return tokens


def _checked_orders(width, orders):
    """The tuple of the orders, after all checks."""
    if not is_row(orders) or not 1 <= len(orders) <= MOST_ORDERS:
        raise BadHouse("order", 0)
    names = []
    for at, order in enumerate(orders):
        if not _is_order(width, order) or order[0] in names:
            raise BadHouse("order", at)
        names.append(order[0])
    return tuple([(name, letters, tuple(tokens)) for name, letters, tokens in orders])


def _is_order(width, order):
    if not is_row(order) or len(order) != 3:
        return False
    name, letters, tokens = order
    if not is_name(name) or not isinstance(letters, str) or letters not in LETTERS:
        return False
    return is_row(tokens) and len(tokens) <= MOST_TOKENS and _is_term(width, letters, tokens)


def _is_term(width, letters, tokens):
    """Whether the tokens write one term."""
    missing = 1
    for token in tokens:
        if missing == 0 or not isinstance(token, str):
            return False
        if token in OPS:
            missing += 1
        elif token in list(letters) or is_number(width, token):
            missing -= 1
        else:
            return False
    return missing == 0


def is_number(width, token):
    """Whether the string writes a word of this width in tens."""
    number = number_of(token)
    return number is not None and number <= ones(width)


def _checked_rules(house, rules):
    """The tuple of the rules, after all checks."""
    if not is_row(rules) or len(rules) > MOST_RULES:
        raise BadHouse("rule", 0)
    for at, rule in enumerate(rules):
        if not _is_rule(house, rule):
            raise BadHouse("rule", at)
    return tuple([(op, tuple([tuple(line) for line in lines])) for op, lines in rules])


def _is_rule(house, rule):
    if not is_row(rule) or len(rule) != 2:
        return False
    op, lines = rule
    if not isinstance(op, str) or (op not in OPS and op != "num"):
        return False
    if not is_row(lines) or not 1 <= len(lines) <= MOST_ROWS:
        return False
    return all([_is_line(house, op, line) for line in lines])


def _is_line(house, op, line):
    """Whether this is a row of a rule of this operation."""
    if not is_row(line) or not all([isinstance(token, str) for token in line]):
        return False
    if len(line) == 0 or line[0] not in [order[0] for order in house.orders]:
        return False
    _, letters, _ = house.order_named(line[0])
    if len(line) != len(letters) + 1:
        return False
    return all([_is_operand(house, op, letter, token) for letter, token in zip(letters, line[1:])])


def _is_operand(house, op, letter, token):
    """Whether the string may stand for this letter of an order."""
    if letter == "n":
        return token == "ones" or is_number(house.width, token) or (op == "num" and token == "n")
    if token in ("x", "y"):
        return letter != "d" and op != "num"
    if token == "u":
        return house.registers >= 4
    if token == "v":
        return house.registers >= 5
    return token == "d"


def _parsed(text):
    """The width, the registers, and the rows of orders and of rules that a text writes."""
    rows, rest = finished_lines(text)
    head, orders, rules = [], [], []
    for at, tokens in enumerate(rows):
        if at < 2:
            head.append(headed_number(tokens, ("width", "registers")[at]))
            good = head[at] is not None
        else:
            good = _took_line(orders, rules, tokens)
        if not good:
            raise BadLine(at)
    # An unfinished line, or a missing one, is the line behind those.
    if rest != "" or len(rows) < 2:
        raise BadLine(len(rows))
    return head[0], head[1], orders, rules


def _took_line(orders, rules, tokens):
    """Whether these are the tokens of a line, which is put to the orders or rules."""
    if "" in tokens:
        return False
    if tokens[0] == "order" and len(tokens) >= 4 and not rules:
        orders.append((tokens[1], tokens[2], tokens[3:]))
        return True
    if tokens[0] == "rule" and len(tokens) >= 3:
        rules.append((tokens[1], _split_rows(tokens[2:])))
        return True
    return False


def _split_rows(tokens):
    """The rows of a rule, between the tokens /."""
    lines = [[]]
    for token in tokens:
        if token == "/":
            lines.append([])
        else:
            lines[-1].append(token)
    return lines

"""Rules: what they leave, and whether they are right."""

from selfwritten.errors import RuleWrong
from selfwritten.lifting import lifted
from selfwritten.orders import order_part, order_word
from selfwritten.pools import Pool
from selfwritten.solving import told_apart
from selfwritten.widths import check_int, check_words, ones


def operands_of(op):
    """The operands of a rule in the order in which their words are told."""
    return ("n", "d", "u", "v") if op == "num" else ("x", "y", "d", "u", "v")


def rule_left(house, word, rule, words):
    """The word that the rule leaves, used for words of the width `word`."""
    check_int(word, 1, house.width, "word")
    op, rows = rule
    names = operands_of(op)
    told = dict(zip(names, check_words(words, house.width, len(names))))
    for row in rows:
        d, x, y, n = _row_operands(house, row)
        number = told["n"] if n == "n" else _number_of(n, word)
        told[d] = order_word(house, row[0], told[d], told.get(x), told.get(y), number)
    return told["d"]


def rule_part(pool, house, word, rule, parts):
    """The part that the rule leaves from parts."""
    check_int(word, 1, house.width, "word")
    op, rows = rule
    told = dict(zip(operands_of(op), parts))
    for row in rows:
        d, x, y, n = _row_operands(house, row)
        number = None
        if n is not None:
            number = told["n"] if n == "n" else pool.num(_number_of(n, word))
        told[d] = order_part(pool, house, row[0], told[d], told.get(x), told.get(y), number)
    return told["d"]


def _row_operands(house, row):
    """The operands of a row for d, x, y and n, None for those that the order has not."""
    _, letters, _ = house.order_named(row[0])
    found = dict(zip(letters, row[1:]))
    return found["d"], found.get("x"), found.get("y"), found.get("n")


def _number_of(operand, word):
    """The number that an operand of n writes, for words of this width."""
    if operand is None:
        return None
    return ones(word) if operand == "ones" else int(operand)


def rule_steps(house, word, rule, places, number):
    """The order steps of a rule: places has the house registers of x, y, d, u and v, number is n."""
    steps = []
    for row in rule[1]:
        d, x, y, n = _row_operands(house, row)
        filled = 0
        if n is not None:
            filled = number if n == "n" else _number_of(n, word)
        steps.append(("order", row[0], places[d], places.get(x, 0), places.get(y, 0), filled))
    return steps


def wrong_words(house, word, rule):
    """Words for which the rule is wrong, or None."""
    check_int(word, 1, house.width, "word")
    pool = Pool(house.width)
    op = rule[0]
    parts = [pool.unknown(number) for number in range(len(operands_of(op)))]
    left = rule_part(pool, house, word, rule, parts)
    if op == "num":
        return told_apart(pool, [word] + [house.width] * 3, left, parts[0])
    wanted = lifted(pool, op, parts[0], parts[1], word)
    return told_apart(pool, [word] * 2 + [house.width] * 3, left, wanted)


def check_rules(house, word):
    """Raises unless all rules are right."""
    check_int(word, 1, house.width, "word")
    for rule in house.rules:
        words = wrong_words(house, word, rule)
        if words is not None:
            raise RuleWrong(rule[0], words, rule_left(house, word, rule, words))

"""Pairs: rules that are needed, costs, and the three bounds ([97], [98])."""

import random
import unittest

from helpers import OPS, WRONG_NUMBERS, refusal
from housing import MASK, ORDERS, WAYS, house_of, rule_of
from plain import BOOKS, let_by_book
from selfwritten.books import Book
from selfwritten.houses import House
from selfwritten.pairs import Pair

ADD = ("add", ("00ab",), [("get", "a"), ("get", "b"), ("add", 0, 1), ("put", "a", 2)])
GO = ("go", ("0111", "nnnn"), [("num", "n"), ("goto", 0)])
HALF = Book(4, 1, [("odd", ("1000",), [("get", 0), ("write", 0, 0), ("must", 0, 12)])])
SHARED = Book(4, 1, [("one", ("000m",), ()), ("two", ("0001",), ())])


def line_cost(line, rows):
    """What [97] says; rows has the number of rows of each rule."""
    if line[0] in ("num", "here", "next"):
        return 1 + rows["num"]
    if line[0] in OPS:
        return 3 + rows[line[0]]
    return {"get": 2, "read": 3, "write": 3, "in": 2, "out": 2, "must": 2, "put": 2, "goto": 2}[line[0]]


class Bounds(unittest.TestCase):
    def check(self, book, house, longest):
        pair = Pair(book, house, longest=longest)
        rows = {}
        for op, lines in house.rules:
            rows[op] = min(rows.get(op, 99), len(lines))
        costs = {form.name: sum(line_cost(line, rows) for line in form.lines) for form in book.forms}
        gotos = {form.name: any(line[0] == "goto" for line in form.lines) for form in book.forms}
        values = [sum(line[0] not in ("must", "write", "out", "put", "goto") for line in form.lines)
                  for form in book.forms]
        for form in book.forms:
            self.assertEqual(pair.cost(form.name), costs[form.name])
            for line in form.lines:
                self.assertEqual(pair.line_cost(line), line_cost(line, rows))
        c = max(costs[name] + (3 if gotos[name] else 1) for name in costs)
        self.assertEqual((pair.c, pair.d), (c, c * longest))
        self.assertEqual(pair.r, book.registers + 2 + longest * (max(values) + 1))
        self.assertTrue(pair.book == book and pair.house == house)
        self.assertEqual(pair.longest, longest)

    def test_drawn_pairs(self):
        rng = random.Random(97)
        for number in range(80):
            word = rng.randrange(4, 9)
            book = let_by_book(rng, word, rng.randrange(1, 5)) if number % 3 else BOOKS[4]
            width = rng.randrange(book.word, 13)
            rules = []
            for op in (*OPS, "num"):
                for _ in range(rng.randrange(1, 4)):
                    rules.append(rule_of(op, rng.randrange(len(WAYS[op])), book.word, width))
            rng.shuffle(rules)
            self.check(book, House(width, 5, ORDERS, rules), rng.randrange(1, 9))

    def test_the_edges(self):
        empty = Book(4, 1, [("nop", ("0000",), ())])
        for longest in (1, 8):
            self.check(empty, House(4, 3, ORDERS[:1], []), longest)
        only = Book(8, 4, [("jmp", ("0000nnnn",), [("num", "n"), ("goto", 0)])])
        self.check(only, house_of(8, 12, 8), 8)
        self.assertEqual(Pair(empty, House(4, 3, ORDERS[:1], [])).longest, 8)
        self.assertEqual([Pair(only, house_of(8, 12)).c, Pair(only, house_of(8, 12)).r], [7, 22])

    def test_a_goto_counts_two_more(self):
        book = Book(4, 1, [("one", ("0000",), [("get", 0), ("put", 0, 0)]), ("two", ("0001",), [("get", 0), ("goto", 0)])])
        self.assertEqual(Pair(book, House(4, 3, ORDERS[:1], [])).c, 7)


class Rules(unittest.TestCase):
    def test_the_fewest_rows_and_the_first_of_these(self):
        rules = [rule_of("add", 2, 4, 4), ("add", [("plus", "d", "y", "x")]), rule_of("add", 0, 4, 4),
                 rule_of("num", 1, 4, 4), rule_of("num", 0, 4, 4)]
        pair = Pair(Book(4, 2, [ADD, GO]), House(4, 5, ORDERS, rules))
        self.assertEqual(pair.rule_for("add"), ("add", (("plus", "d", "y", "x"),)))
        self.assertEqual(pair.rule_for("num"), ("num", (("fill", "d", "n"),)))
        self.assertEqual([pair.cost("add"), pair.cost("go")], [10, 4])

    def test_no_rule(self):
        pair = Pair(Book(4, 1, [("nop", ("0000",), ())]), House(4, 3, ORDERS, [rule_of("add", 0, 4, 4)]))
        for op in ("sub", "num", "get", "here", "", None, 3, ["add"]):
            self.assertEqual(refusal(pair.rule_for, op), ("NoRule", op, "", ()))
        for line, op in ((("num", 3), "num"), (("here",), "num"), (("next",), "num"), (("less", 0, 1), "less")):
            self.assertEqual(refusal(pair.line_cost, line), ("NoRule", op, "", ()))
        self.assertEqual([pair.line_cost(("add", 0, 1)), pair.line_cost(("get", 0))], [4, 2])
        for name in ("odd", "", None, ("nop",)):
            self.assertEqual(refusal(pair.cost, name), ("BadSource", 0))


class Refusals(unittest.TestCase):
    BOOK = Book(4, 2, [("nop", ("1000",), ()), ADD, GO])

    def wrong(self, book=BOOK, house=None, **more):
        return refusal(Pair, book, house or house_of(4, 4), **more)

    def test_the_order_of_the_checks(self):
        narrow, wrong = House(4, 3, ORDERS, []), House(8, 3, ORDERS, [("add", WAYS["sub"][0])])
        book = Book(5, 2, [("nop", ("00000",), [("num", 1)])])
        self.assertEqual(self.wrong(HALF, narrow, longest=0)[0], "HalfDone")
        self.assertEqual(self.wrong(SHARED, narrow, longest=0), ("OneCode", "one", "two", (1,)))
        self.assertEqual(self.wrong(book, narrow, longest=0), ("BadPair",))
        for longest in (0, 9, -1, *WRONG_NUMBERS):
            self.assertEqual(self.wrong(book, wrong, longest=longest), ("BadNumber", "longest"))
        self.assertEqual(self.wrong(book, wrong)[:2], ("RuleWrong", "add"))
        self.assertEqual(self.wrong(book, House(8, 3, ORDERS, []))[:2], ("NoRule", "num"))

    def test_the_width(self):
        for width in range(4, 13):
            for word in range(4, 9):
                told = self.wrong(Book(word, 1, [("nop", ("0" * word,), ())]), House(width, 3, ORDERS, []))
                self.assertEqual(told, None if width >= word else ("BadPair",))

    def test_rules_are_right_at_the_width_of_the_book(self):
        house = House(6, 3, ORDERS, [("add", WAYS["add"][0])])
        self.assertEqual(self.wrong(Book(4, 1, [("nop", ("0000",), ())]), house)[:2], ("RuleWrong", "add"))
        self.assertIsNone(self.wrong(Book(6, 1, [("nop", ("000000",), ())]), house))
        house = House(6, 3, ORDERS, [("add", WAYS["add"][0] + [MASK])])
        self.assertEqual(self.wrong(Book(5, 1, [("nop", ("00000",), ())]), house), None)

    def test_a_wrong_rule_that_no_line_needs(self):
        house = House(4, 3, ORDERS, [("sub", WAYS["add"][0])])
        self.assertEqual(self.wrong(Book(4, 1, [("nop", ("0000",), ())]), house)[:2], ("RuleWrong", "sub"))

    def test_the_first_line_without_a_rule(self):
        lines = [("get", "a"), ("here",), ("xor", 0, 1), ("less", 0, 2)]
        book = Book(4, 2, [("nop", ("1000",), ()), ("odd", ("00a1", "nb01"), lines), GO])
        code = (1, 1)
        for ops, told in (((), "num"), (("num",), "xor"), (("num", "xor"), "less"), (("xor", "less"), "num")):
            self.assertEqual(self.wrong(book, house_of(4, 4, ops=ops)), ("NoRule", told, "odd", code))
        self.assertIsNone(self.wrong(book, house_of(4, 4, ops=("num", "xor", "less"))))
        for line, op in ((("num", 3), "num"), (("here",), "num"), (("next",), "num")):
            book = Book(4, 1, [("one", ("1111",), [line])])
            self.assertEqual(self.wrong(book, house_of(4, 4, ops=OPS)), ("NoRule", op, "one", (15,)))
        for op in OPS:
            book = Book(4, 1, [("one", ("1111",), [("get", 0), (op, 0, 0)])])
            ops = [one for one in OPS if one != op]
            self.assertEqual(self.wrong(book, house_of(4, 4, ops=ops)), ("NoRule", op, "one", (15,)))
            self.assertIsNone(self.wrong(book, house_of(4, 4, ops=[op])))

    def test_too_many(self):
        rows = [("plus", "d", "x", "y")] + [("plus", "d", "d", "x")] * 14
        house = House(4, 3, ORDERS, [("add", rows)])
        self.assertEqual(self.wrong(Book(4, 1, [("nop", ("0000",), ())]), house), ("TooMany", "standing"))


if __name__ == "__main__":
    unittest.main()

"""Template rows ([112] to [114], [223])."""

import random
import unittest

from helpers import WRONG_NUMBERS, refusal
from housing import drawn_house, house_of, told_order
from plain import BOOKS, let_by_book
from rowing import drawn_road, form_of, road_run, row_run
from selfwritten.books import Book
from selfwritten.joins import beginning
from selfwritten.pairs import Pair
from selfwritten.roads import road_of
from selfwritten.rows import check_row, handed_parts
from selfwritten.templates import base, template

VALUES = ("get", "num", "here", "next", "add", "sub", "and", "or", "xor", "less", "same", "read", "in")


def own_template(pair, pairs):
    """The steps, late words and hands that [112] and [113] tell."""
    book, n, word = pair.book, pair.book.registers, pair.book.word
    steps, late, hands = [], [("slot", s) for s in range(n + 1)], []

    def ruled(op, number):
        fewest = min(len(rows) for name, rows in pair.house.rules if name == op)
        rows = [rows for name, rows in pair.house.rules if name == op and len(rows) == fewest][0]
        place = {"x": 0, "y": 1, "d": 2, "u": 3, "v": 4}
        for name, *operands in rows:
            letters = [letters for own, letters, _ in pair.house.orders if own == name][0]
            told = dict(zip(letters, operands))
            n_of = told.get("n", "0")
            filled = {"n": number, "ones": 2 ** word - 1}.get(n_of)
            steps.append(("order", name, place[told["d"]], place.get(told.get("x"), 0), place.get(told.get("y"), 0),
                          int(n_of) if filled is None else filled))

    boundary = ("num", pairs[0][0])
    for i, (place, (name, numbers)) in enumerate(pairs):
        form = form_of(book, name)
        letter = {sign: number for (sign, _), number in zip(form.letters, numbers)}
        slot, values = {}, 0
        for at, line in enumerate(form.lines):
            if line[0] in VALUES:
                slot[at] = n + 1 + values
                values += 1
        after = (place + len(form.patterns)) % 2 ** word
        hands.append((len(late) if boundary else n, *range(n)))
        late += [boundary] if boundary else []
        boundary = ("num", after)
        if i > 0:
            steps.append(("tick",))
        for at, (kind, *rest) in enumerate(form.lines):
            if kind == "get":
                steps += [("load", 0, letter.get(rest[0], rest[0])), ("save", slot[at], 0)]
            elif kind in ("num", "here", "next"):
                ruled("num", letter.get(rest[0], rest[0]) if rest else {"here": place, "next": after}[kind])
                steps.append(("save", slot[at], 2))
            elif kind in ("read", "in"):
                steps += [("load", 0, slot[rest[0]]), ("read", 2, 0)] if kind == "read" else [("in", 2, rest[0])]
                steps.append(("save", slot[at], 2))
            elif kind == "must":
                steps += [("load", 0, slot[rest[0]]), ("must", 0, rest[1])]
            elif kind == "write":
                steps += [("load", 0, slot[rest[0]]), ("load", 1, slot[rest[1]]), ("write", 0, 1)]
            elif kind == "out":
                steps += [("load", 0, slot[rest[1]]), ("out", rest[0], 0)]
            elif kind not in ("put", "goto"):
                steps += [("load", 0, slot[rest[0]]), ("load", 1, slot[rest[1]])]
                ruled(kind, 0)
                steps.append(("save", slot[at], 2))
        for kind, *rest in form.lines:
            if kind == "put":
                steps += [("load", 0, slot[rest[1]]), ("save", letter.get(rest[0], rest[0]), 0)]
            elif kind == "goto":
                steps += [("load", 0, slot[rest[0]]), ("save", n, 0)]
                boundary = None
        if boundary is None and i + 1 < len(pairs):
            steps += [("load", 0, n), ("keep", 0, pairs[i + 1][0])]
    hands.append((len(late) if boundary else n, *range(n)))
    late += [boundary] if boundary else []
    return tuple(steps + [("end",)]), tuple(late), tuple(hands)


def own_base(pair, pairs, i):
    total = 0
    for at, (_, (name, _)) in enumerate(pairs[:i]):
        goto = any(line[0] == "goto" for line in form_of(pair.book, name).lines)
        total += pair.cost(name) + 1 + (2 if goto and at + 1 < len(pairs) else 0)
    return total


class Templates(unittest.TestCase):
    def drawn(self, seed, many):
        """Drawn pairs and roads."""
        rng = random.Random(seed)
        for number in range(many):
            word = 4 if number % 4 else 8
            book = BOOKS[word] if number % 2 else let_by_book(rng, word, rng.randrange(1, 4))
            house = drawn_house(rng, word, rng.choice((word, word + 1, 12)), rng.choice((3, 4, 5, 8)))
            pair = Pair(book, house, longest=8)
            yield rng, pair, drawn_road(rng, book, rng.randrange(1, 9))

    def test_steps_late_words_and_hands(self):
        for _, pair, road in self.drawn(112, 200):
            row = template(pair, road)
            self.assertEqual((row.steps, row.late, row.hands), own_template(pair, list(road)))
            self.assertIsNone(check_row(pair, row))

    def test_bounds(self):
        for _, pair, road in self.drawn(114, 200):
            row, many = template(pair, road), len(road)
            for i in range(many + 1):
                self.assertEqual(base(pair, road, i), own_base(pair, list(road), i))
                self.assertEqual(handed_parts(row, i), 0)
            self.assertEqual(len(row.steps), base(pair, road, many))
            self.assertLessEqual(len(row.steps), pair.c * many)
            slots = [step[2] for step in row.steps if step[0] == "load"] + [step[1] for step in row.steps if step[0] == "save"]
            slots += [late[1] for late in row.late if late[0] == "slot"]
            self.assertLess(max(slots), pair.r)
            # The steps done at each tick, at each keep, and at the end.
            ticks = [at + 1 for at, step in enumerate(row.steps) if step[0] == "tick"]
            self.assertEqual(ticks, [base(pair, road, i) for i in range(1, many)])
            for at, step in enumerate(row.steps):
                if step[0] == "keep":
                    i = row.steps[:at].count(("tick",))
                    self.assertEqual(at + 1, base(pair, road, i) + 2 + pair.cost(road.instructions[i][0]))

    def test_runs(self):
        for rng, pair, road in self.drawn(1140, 160):
            size, row = 2 ** pair.book.word, template(pair, road)
            for _ in range(6):
                regs = tuple(rng.randrange(size) for _ in range(pair.book.registers))
                answers = [rng.choice((None,) + (rng.randrange(size),) * 15) for _ in range(rng.randrange(50))]
                told, _ = road_run(pair.book, list(road), regs, answers)
                self.assertEqual(row_run(pair, row, road.entry, regs, answers)[:2], told)
                # Cut at each of its asks.
                for cut in range(len(told[0])):
                    short = answers[:cut]
                    self.assertEqual(row_run(pair, row, road.entry, regs, short)[:2],
                                     road_run(pair.book, list(road), regs, short)[0])

    def test_beginnings(self):
        for _, pair, road in self.drawn(223, 160):
            row = template(pair, road)
            ticks = [at for at, step in enumerate(row.steps) if step[0] == "tick"]
            for i in range(1, len(road)):
                steps = row.steps[:ticks[i - 1]]
                if any(line[0] == "goto" for line in form_of(pair.book, road.instructions[i - 1][0]).lines):
                    self.assertEqual([step[0] for step in steps[-2:]], ["load", "keep"])
                    steps = steps[:-2]
                self.assertEqual(template(pair, beginning(pair.book, road, i)).steps, steps + (("end",),))

    def test_the_rule_with_the_fewest_rows(self):
        book = Book(4, 1, [("dup", ("0000",), [("get", 0), ("add", 0, 0), ("put", 0, 1)])])
        house = house_of(4, 6, 3, {}, ("add", "num"))
        row = template(Pair(book, house), road_of(book, [(0, ("dup", ()))]))
        self.assertEqual(row.steps[:7], (("load", 0, 0), ("save", 2, 0), ("load", 0, 2), ("load", 1, 2),
                                         ("order", "plus", 2, 0, 1, 0), ("order", "mask", 2, 2, 0, 15), ("save", 3, 2)))
        self.assertEqual(told_order(house, "plus", {"x": 3, "y": 4}), 7)

    def test_base_is_refused(self):
        pair = Pair(BOOKS[4], house_of(4, 4))
        road = road_of(pair.book, [(0, ("nop", ())), (1, ("jmp", (4,)))])
        self.assertEqual([base(pair, road, i) for i in range(3)], [0, 1, 1 + pair.cost("jmp") + 1])
        for i in (-1, 3, *WRONG_NUMBERS):
            self.assertEqual(refusal(base, pair, road, i), ("BadNumber", "i"))


if __name__ == "__main__":
    unittest.main()

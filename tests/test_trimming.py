"""Trimmed rows ([147], [148], [225])."""

import random
import unittest

from helpers import OPS
from plain import BOOKS, let_by_book
from riding import drawn_pair, long_pair
from rowing import drawn_road, first_unlike, or_too_many, reads_of, road_run, row_run
from selfwritten.books import Book
from selfwritten.houses import House
from selfwritten.judging import judged
from selfwritten.laying import laid
from selfwritten.letting import dear_at, is_let_by_judge, let_by
from selfwritten.middle import middle_of
from selfwritten.pairs import Pair
from selfwritten.passes import late_lines, plainly, tidy
from selfwritten.pools import Pool
from selfwritten.roads import road_of
from selfwritten.rowruns import run_row
from selfwritten.rows import LEAVES, handed_parts, price
from selfwritten.sketches import sketch_of_row
from selfwritten.templates import base, template
from selfwritten.trimming import trimmed

# An operation that is known only once the row is tidy.
ZERO = ("zero", ("0001",), [("get", 0), ("xor", 0, 0), ("out", 0, 1)])
NEXT = ("next", ("0010",), [("next",), ("out", 0, 0)])


def drawn_one(rng, book=None):
    book = book or (BOOKS[4] if rng.random() < 0.5 else let_by_book(rng, 4, rng.randrange(1, 5)))
    pair = drawn_pair(rng, book) if rng.random() < 0.6 else long_pair(rng, book, rng.randrange(4, 41))
    return pair, drawn_road(rng, book, rng.randrange(1, 9))


class Trimmed(unittest.TestCase):
    def test_tidy_unless_a_leave_is_dear(self):
        rng = random.Random(147)
        dear = 0
        for number in range(500):
            pair, road = drawn_one(rng, Book(4, 1, [ZERO, NEXT]) if number % 5 == 0 else None)
            middle = middle_of(pair.book, road)
            tidy_row, plain_row = [laid(pair, one(middle, 4)) for one in (tidy, plainly)]
            too_dear = dear_at(pair, road, tidy_row) is not None
            dear += too_dear
            self.assertEqual(trimmed(pair, road), plain_row if too_dear else tidy_row)
            self.assertIsNone(dear_at(pair, road, plain_row))
            if len(pair.rule_for("num")[1]) <= 3:
                self.assertFalse(too_dear)
        self.assertGreater(dear, 10)

    def test_a_rule_of_num_that_is_long(self):
        rng = random.Random(1147)
        for rows, is_tidy in ((1, True), (3, True), (5, True), (6, True), (40, False)):
            pair = long_pair(rng, Book(4, 1, [ZERO, NEXT]), rows)
            road = road_of(pair.book, [(0, ("zero", ()))])
            middle = middle_of(pair.book, road)
            self.assertEqual(trimmed(pair, road) == laid(pair, tidy(middle, 4)), is_tidy, rows)

    def test_a_pair_without_a_rule_of_num(self):
        pair = long_pair(random.Random(0), Book(4, 1, [ZERO]), 0)
        road = road_of(pair.book, [(0, ("zero", ())), (1, ("zero", ()))])
        row = trimmed(pair, road)
        self.assertEqual(row, laid(pair, plainly(middle_of(pair.book, road), 4)))
        self.assertTrue(is_let_by_judge(pair, road, row))
        fine = Book(4, 1, [("ld", ("0001",), [("get", 0), ("read", 0), ("put", 0, 1)])])
        pair = long_pair(random.Random(0), fine, 0)
        road = road_of(fine, [(0, ("ld", ()))])
        self.assertEqual(trimmed(pair, road), laid(pair, tidy(middle_of(fine, road), 4)))

    def test_let_by(self):
        rng = random.Random(1148)
        told = {True: 0, False: 0, "TooMany": 0}
        for _ in range(250):
            pair, road = drawn_one(rng)
            row = trimmed(pair, road)
            if len(road) <= pair.longest:
                self.assertIn(or_too_many(let_by, pair, road, row), (None, "TooMany"))
                told[or_too_many(let_by, pair, road, row) or True] += 1
        self.assertGreater(told[True], 100)

    def test_plain_rows_are_let_by_too(self):
        rng = random.Random(3148)
        for _ in range(120):
            pair, road = drawn_one(rng)
            if len(road) <= pair.longest:
                row = laid(pair, plainly(middle_of(pair.book, road), 4))
                self.assertIn(or_too_many(let_by, pair, road, row), (None, "TooMany"))

    def test_for_all_registers_and_answers(self):
        rng = random.Random(4148)
        done = 0
        while done < 12:
            pair, road = drawn_one(rng, let_by_book(rng, 4, 1))
            if len(road) > 4 or reads_of(pair.book, road) > 1:
                continue
            row = trimmed(pair, road)
            self.assertIsNone(first_unlike(lambda regs, told: road_run(pair.book, list(road), regs, told)[0],
                                           lambda regs, told: row_run(pair, row, road.entry, regs, told), 4, 1))
            done += 1

    def test_against_base(self):
        rng = random.Random(5148)
        for _ in range(200):
            pair, road = drawn_one(rng)
            row = trimmed(pair, road)
            bounds = [base(pair, road, i) for i in range(len(road) + 1)]
            self.assertLessEqual(len(row.steps), bounds[-1])
            ticks = 0
            for at, step in enumerate(row.steps):
                if step[0] in LEAVES:
                    self.assertLessEqual(price(row, at), bounds[ticks + 1])
                ticks += step == ("tick",)
            saves = [step[1] for step in row.steps if step[0] == "save"]
            self.assertEqual(len(saves), len(set(saves)))
            self.assertTrue(all(slot > pair.book.registers for slot in saves))
            if len(road) <= pair.longest:
                slots = saves + [late[1] for late in row.late if late[0] == "slot"]
                self.assertTrue(all(slot < pair.r for slot in slots))

    def test_what_a_leave_pays_for_late_lines(self):
        rng = random.Random(6148)
        for _ in range(150):
            book = BOOKS[4] if rng.random() < 0.5 else let_by_book(rng, 4, rng.randrange(1, 5))
            pair = drawn_pair(rng, book)
            road = drawn_road(rng, book, rng.randrange(1, 9))
            middle = tidy(middle_of(book, road), 4)
            row, late = laid(pair, middle), set(late_lines(middle))
            for boundary, mark in enumerate(middle.marks):
                reached = {number for number in mark if number in late}
                while True:
                    more = reached | {number for at in reached for number in middle.lines[at][1:] if number in late}
                    if more == reached:
                        break
                    reached = more
                twice = [at for at in reached if middle.lines[at][0] in ("add", "sub") and pair.house.width > 4]
                self.assertEqual(handed_parts(row, boundary), len(reached) + len(twice))

    def test_behind_an_effect_only_a_tick_a_keep_or_an_end_leaves(self):
        rng = random.Random(222)
        met = {}
        for _ in range(300):
            pair, road = drawn_one(rng)
            row = trimmed(pair, road)
            for _ in range(8):
                regs = tuple(rng.choice((0, 1, 15, rng.randrange(16))) for _ in range(pair.book.registers))
                answers = [rng.choice((0, 1, rng.randrange(16))) for _ in range(rng.randrange(12))]
                asks, (cause, _, _, _), _ = run_row(pair, row, road.entry, regs, answers)
                names = [ask[0] for ask in asks]
                yes = names[:len(answers)]
                behind = yes[max([at for at, name in enumerate(yes) if name == "tick"], default=-1) + 1:]
                if set(behind) & {"write", "in", "out"}:
                    self.assertIsNone(cause)
                    self.assertIn(names[len(answers):], ([], ["tick"]))
                    met[tuple(names[len(answers):])] = True
        self.assertEqual(len(met), 2)

    def test_two_rows_that_are_let_by_are_the_same(self):
        rng = random.Random(224)
        told = {None: 0, "TooMany": 0}
        for _ in range(150):
            pair, road = drawn_one(rng)
            pool = Pool(pair.house.width)
            one, other = [sketch_of_row(pool, pair, row, road.entry) for row in (template(pair, road), trimmed(pair, road))]
            told[or_too_many(judged, one, other)] += 1
        self.assertGreater(told[None], 100)

    def test_a_row_without_lines_at_all(self):
        book = Book(4, 1, [("nop", ("0000",), ())])
        pair = Pair(book, House(4, 3, [("fill", "dn", ["n"])], []))
        road = road_of(book, [(at, ("nop", ())) for at in range(8)])
        row = trimmed(pair, road)
        self.assertEqual(row.steps, (("tick",),) * 7 + (("end",),))
        self.assertEqual(row.late, (("slot", 0), *[("num", at) for at in range(9)]))
        self.assertEqual(run_row(pair, row, 0, (5,), [0] * 3), ((("tick",),) * 4, (None, 4, 4, (5,)), 4))


if __name__ == "__main__":
    unittest.main()

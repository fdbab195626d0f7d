"""Laying middle rows ([142] to [146], [148])."""

import random
import unittest

from helpers import OPS, refusal
from housing import house_of
from plain import BOOKS, let_by_book
from riding import drawn_pair
from rowing import all_answers, drawn_road, first_unlike, reads_of, road_run, row_run
from selfwritten.books import Book
from selfwritten.houses import House
from selfwritten.laying import laid
from selfwritten.middle import Middle, middle_of
from selfwritten.pairs import Pair
from selfwritten.passes import dropped, known, once, plainly, spared, tidy
from selfwritten.roads import road_of
from selfwritten.rows import check_row
from trims import OwnLaying

ORDERS = [("plus", "dxy", ("add", "x", "y")), ("set", "dn", ("n",))]
PLUS, SET = ("add", [("plus", "d", "x", "y")]), ("num", [("set", "d", "n")])
SAY = ("say", ("1111",), [("get", 0), ("out", 0, 0)])


def pair_with(forms, registers=3, width=4, rules=(PLUS, SET), book_registers=1, orders=ORDERS):
    return Pair(Book(4, book_registers, forms), House(width, registers, orders, rules))


class Steps(unittest.TestCase):
    def test_late_words_of_each_kind(self):
        lines = [("get", 0), ("read", 0), ("in", 2), ("num", 5), ("add", 1, 3), ("add", 4, 2), ("put", 0, 5), ("goto", 4)]
        for width, more in ((4, 0), (6, 2)):
            rules = [("add", [("plus", "d", "x", "y")] + [("mask", "d", "d", "ones")] * (width > 4)), SET]
            orders = ORDERS + [("mask", "dxn", ("and", "x", "n"))]
            pair = pair_with([("mix", ("0001",), lines)], width=width, rules=rules, orders=orders)
            row = laid(pair, middle_of(pair.book, road_of(pair.book, [(3, ("mix", ()))])))
            self.assertEqual(row.steps, (("load", 0, 0), ("read", 1, 0), ("save", 3, 1), ("in", 0, 2), ("save", 4, 0), ("end",)))
            mask = [("num", 15), ("and", 5, 6)][:more]
            first = [("slot", 0), ("num", 3), ("slot", 3), ("slot", 4), ("num", 5), ("add", 2, 4), *mask]
            last = [("add", len(first) - 1, 3), ("num", 15), ("and", len(first), len(first) + 1)][:1 + more]
            self.assertEqual(row.late, tuple(first + last))
            self.assertEqual(row.hands, ((1, 0), (len(first) - 1, len(row.late) - 1)))

    def test_a_number_is_brought_by_its_rule_and_a_get_is_loaded(self):
        pair = pair_with([("st", ("0001",), [("num", 9), ("get", 0), ("write", 0, 1)])])
        row = laid(pair, middle_of(pair.book, road_of(pair.book, [(0, ("st", ()))])))
        self.assertEqual(row.steps, (("order", "set", 0, 0, 0, 9), ("load", 1, 0), ("write", 0, 1), ("end",)))

    def test_a_line_is_saved_ahead_of_being_used_again(self):
        lines = [("num", 7), ("num", 9), ("num", 11), ("num", 13), ("write", 0, 1)]
        more = [("num", 7), ("num", 9), ("num", 11), ("num", 13), ("add", 2, 3), ("write", 4, 0)]
        pair = pair_with([("one", ("0001",), lines), ("two", ("0010",), more), SAY])
        road = road_of(pair.book, [(0, ("one", ())), (1, ("two", ()))])
        row = laid(pair, once(middle_of(pair.book, road), 4))
        # 7 and 9 lie in 0 and 1; 11 and 13 need registers, and 7 is named last of all.
        self.assertEqual(row.steps, (
            ("order", "set", 0, 0, 0, 7), ("order", "set", 1, 0, 0, 9), ("write", 0, 1), ("tick",),
            ("order", "set", 1, 0, 0, 11), ("order", "set", 2, 0, 0, 13), ("save", 3, 0), ("order", "plus", 0, 1, 2, 0),
            ("load", 1, 3), ("write", 0, 1), ("end",)))

    def test_the_furthest_line_gives_way(self):
        # Each of a, b and c lies in a register of three; d takes that of the line that is named last.
        for order, given in (((0, 1, 2), 2), ((2, 1, 0), 0), ((1, 2, 0), 0), ((0, 2, 1), 1)):
            lines = [("get", 0), ("get", 1), ("get", 2), ("get", 3), ("num", 0), ("must", 0, 12), ("must", 1, 12), ("must", 2, 12),
                     ("must", 3, 12), ("must", order[0], 12), ("must", order[1], 12), ("must", order[2], 12), ("end",)]
            pair = pair_with([SAY], book_registers=4)
            row = laid(pair, Middle(lines, [(4, 0, 1, 2, 3)] * 2))
            self.assertEqual(row.steps[6], ("load", given, 3))

    def test_equal_distance_gives_the_lowest_register(self):
        lines = [("get", 0), ("get", 1), ("get", 2), ("num", 0), ("must", 2, 12), ("must", 0, 12), ("must", 1, 12), ("in", 1),
                 ("write", 0, 2), ("write", 1, 1), ("end",)]
        pair = pair_with([SAY], book_registers=3)
        row = laid(pair, Middle(lines, [(3, 0, 1, 2)] * 2))
        # get 2 is in 0, get 0 in 1, get 1 in 2: the write of 1 and 1 is the furthest.
        self.assertEqual(row.steps[6], ("in", 2, 1))
        lines[9] = ("write", 0, 2)
        lines[8] = ("write", 1, 1)
        row = laid(pair, Middle(lines, [(3, 0, 1, 2)] * 2))
        self.assertEqual(row.steps[6], ("in", 0, 1))

    def test_u_and_v_are_free_again(self):
        rules = [("add", [("plus", "u", "x", "y"), ("plus", "v", "u", "x"), ("plus", "d", "x", "y")]), SET]
        lines = [("get", 0), ("read", 0), ("add", 0, 1), ("write", 2, 1)]
        pair = pair_with([("mix", ("0001",), lines)], registers=5, rules=rules)
        row = laid(pair, middle_of(pair.book, road_of(pair.book, [(0, ("mix", ()))])))
        self.assertEqual(row.steps[:6], (("load", 0, 0), ("read", 1, 0), ("order", "plus", 3, 0, 1, 0), ("order", "plus", 4, 3, 0, 0),
                                         ("order", "plus", 2, 0, 1, 0), ("write", 2, 1)))

    def test_a_held_register_is_saved_at_once_and_once(self):
        lines = [("get", 0), ("get", 0), ("add", 0, 1), ("out", 0, 2), ("put", 0, 2)]
        pair = pair_with([("dup", ("0001",), lines)])
        row = laid(pair, middle_of(pair.book, road_of(pair.book, [(0, ("dup", ()))])))
        self.assertEqual(row.steps, (("load", 0, 0), ("order", "plus", 1, 0, 0, 0), ("save", 3, 1), ("out", 0, 1), ("end",)))
        self.assertEqual(row.late, (("slot", 0), ("num", 0), ("slot", 3), ("num", 1)))

    def test_no_rule_of_num(self):
        middle = Middle([("get", 0), ("num", 3), ("out", 0, 1), ("end",)], [(1, 0), (1, 0)])
        pair = pair_with([SAY], rules=(PLUS,))
        self.assertEqual(refusal(laid, pair, middle), ("NoRule", "num", "", ()))
        fine = Middle([("get", 0), ("num", 3), ("out", 0, 0), ("end",)], [(1, 0), (1, 0)])
        self.assertEqual(laid(pair, fine).late, (("slot", 0), ("num", 3)))


class Drawn(unittest.TestCase):
    def test_step_by_step_against_own_laying(self):
        rng = random.Random(142)
        for _ in range(300):
            word = rng.choice((4, 4, 5, 8))
            book = BOOKS[word] if word in BOOKS and rng.random() < 0.5 else let_by_book(rng, word, rng.randrange(1, 5))
            pair = drawn_pair(rng, book)
            middle = middle_of(book, drawn_road(rng, book, rng.randrange(1, 9)))
            for _ in range(rng.randrange(4)):
                middle = rng.choice((known, spared, once, dropped, tidy, plainly))(middle, word)
            row, own = laid(pair, middle), OwnLaying(pair, list(middle.lines), list(middle.marks))
            self.assertEqual((row.steps, row.late, row.hands), (tuple(own.steps), tuple(own.late), tuple(own.hands)))
            self.assertIsNone(check_row(pair, row))

    def test_every_house(self):
        rng = random.Random(1142)
        for registers in range(3, 9):
            for width in (4, 7):
                pair = Pair(BOOKS[4], house_of(4, width, registers))
                for _ in range(12):
                    road = drawn_road(rng, BOOKS[4], rng.randrange(1, 9))
                    for middle in (middle_of(pair.book, road), tidy(middle_of(pair.book, road), 4)):
                        row, own = laid(pair, middle), OwnLaying(pair, list(middle.lines), list(middle.marks))
                        self.assertEqual((row.steps, row.late, row.hands), (tuple(own.steps), tuple(own.late), tuple(own.hands)))

    def test_does_what_the_road_does(self):
        rng = random.Random(148)
        for _ in range(150):
            book = BOOKS[4] if rng.random() < 0.5 else let_by_book(rng, 4, rng.randrange(1, 5))
            pair = drawn_pair(rng, book)
            road = drawn_road(rng, book, rng.randrange(1, 9))
            middle = middle_of(book, road)
            for row in (laid(pair, middle), laid(pair, plainly(middle, 4)), laid(pair, tidy(middle, 4))):
                for _ in range(6):
                    regs = tuple(rng.choice((0, 1, 15, rng.randrange(16))) for _ in range(book.registers))
                    answers = [rng.choice((0, 1, 15, rng.randrange(16))) for _ in range(rng.randrange(25))]
                    self.assertEqual(row_run(pair, row, road.entry, regs, answers)[:2],
                                     road_run(book, list(road), regs, answers)[0])

    def test_for_all_registers_and_answers(self):
        rng = random.Random(1148)
        done = 0
        while done < 10:
            book = let_by_book(rng, 4, 1)
            road = drawn_road(rng, book, rng.randrange(1, 5))
            if reads_of(book, road) > 1:
                continue
            pair = drawn_pair(rng, book)
            middle = middle_of(book, road)
            for row in (laid(pair, middle), laid(pair, tidy(middle, 4)), laid(pair, plainly(middle, 4))):
                self.assertIsNone(first_unlike(lambda regs, told: road_run(book, list(road), regs, told)[0],
                                               lambda regs, told: row_run(pair, row, road.entry, regs, told), 4, 1))
            done += 1

    def test_slots_and_late_lines(self):
        rng = random.Random(2148)
        for _ in range(150):
            book = BOOKS[4] if rng.random() < 0.5 else let_by_book(rng, 4, rng.randrange(1, 5))
            pair = drawn_pair(rng, book)
            middle = middle_of(book, drawn_road(rng, book, rng.randrange(1, 9)))
            row = laid(pair, tidy(middle, 4))
            saves = [step[1] for step in row.steps if step[0] == "save"]
            self.assertEqual(len(saves), len(set(saves)))
            self.assertTrue(all(slot > book.registers for slot in saves))
            self.assertFalse([late for late in row.late if late[0] in OPS and max(late[1:]) >= row.late.index(late)])


if __name__ == "__main__":
    unittest.main()

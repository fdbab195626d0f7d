"""Middle rows ([136] to [138])."""

import random
import unittest

from helpers import WRONG_NUMBERS, WRONG_ROWS, refusal
from plain import BOOKS, let_by_book
from rowing import drawn_road, first_unlike, reads_of, road_run
from selfwritten.books import Book
from selfwritten.middle import Middle, middle_of, run_middle
from selfwritten.roads import road_of
from selfwritten.roadruns import run_road
from trims import middle_run, own_middle

FORMS = [
    ("all", ("0001",), [("here",), ("get", 1), ("next",), ("num", 7), ("add", 0, 1), ("put", 0, 4), ("put", 0, 2)]),
    ("asks", ("0010",), [("get", 0), ("read", 0), ("must", 1, 13), ("in", 4), ("put", 1, 3), ("put", 1, 1)]),
    ("show", ("0011",), [("get", 0), ("get", 1), ("out", 9, 1)]),
    ("go", ("0100",), [("get", 1), ("goto", 0), ("put", 0, 0)]),
]
BOOK = Book(4, 2, FORMS)


class Lines(unittest.TestCase):
    def test_each_kind_of_line(self):
        road = road_of(BOOK, [(15, ("all", ())), (0, ("asks", ()))])
        lines = (("get", 0), ("get", 1), ("num", 15), ("num", 15), ("num", 0), ("num", 7), ("add", 3, 1), ("num", 0),
                 ("tick",), ("read", 4), ("must", 9, 13), ("in", 4), ("num", 1), ("end",))
        middle = middle_of(BOOK, road)
        self.assertEqual(middle.lines, lines)
        self.assertEqual(middle.marks, ((2, 0, 1), (7, 4, 1), (12, 4, 9)))

    def test_a_goto_last_and_ahead_of_the_last(self):
        road = road_of(BOOK, [(3, ("go", ())), (9, ("show", ())), (10, ("go", ()))])
        middle = middle_of(BOOK, road)
        self.assertEqual(middle.lines[3:], (("keep", 1, 9), ("tick",), ("out", 9, 1), ("num", 10), ("tick",), ("end",)))
        self.assertEqual(middle.marks, ((2, 0, 1), (1, 1, 1), (6, 1, 1), (1, 1, 1)))

    def test_letters(self):
        book = Book(4, 2, [("set", ("01ab", "nnmm"), [("num", "n"), ("num", "m"), ("get", "a"), ("put", "b", 0), ("sub", 1, 2)])])
        middle = middle_of(book, road_of(book, [(0, ("set", (1, 0, 2, 3)))]))
        self.assertEqual(middle.lines[3:], (("num", 3), ("num", 2), ("sub", 4, 1), ("num", 2), ("end",)))
        self.assertEqual(middle.marks[1], (6, 3, 1))

    def test_one_and_eight_instructions(self):
        for many in (1, 8):
            road = road_of(BOOK, [(at, ("show", ())) for at in range(many)])
            middle = middle_of(BOOK, road)
            self.assertEqual(len(middle.marks), many + 1)
            self.assertEqual([line[0] for line in middle.lines].count("tick"), many - 1)
            self.assertEqual(middle.lines[-1], ("end",))

    def test_against_own_middle_rows(self):
        rng = random.Random(137)
        for _ in range(300):
            book = BOOKS[rng.choice((4, 8))] if rng.random() < 0.4 else let_by_book(rng, rng.choice((4, 5)), rng.randrange(1, 5))
            road = drawn_road(rng, book, rng.randrange(1, 9))
            lines, marks = own_middle(book, road)
            middle = middle_of(book, road)
            self.assertEqual((middle.lines, middle.marks), (tuple(lines), tuple(marks)))

    def test_kept_as_tuples(self):
        lines, mark = [["get", 0], ["num", 3], ["end"]], [1, 0]
        middle = Middle(lines, [mark, mark])
        lines[1][1] = 9
        mark[0] = 0
        self.assertEqual((middle.lines, middle.marks), ((("get", 0), ("num", 3), ("end",)), ((1, 0), (1, 0))))

    def test_equal(self):
        one = Middle([("get", 0), ("end",)], [(0, 0), (0, 0)])
        self.assertTrue(one == Middle((("get", 0), ("end",)), [[0, 0], (0, 0)]))
        for other in (Middle([("get", 0), ("tick",)], [(0, 0), (0, 0)]), Middle([("get", 0), ("end",)], [(0, 0)]), None,
                      (one.lines, one.marks)):
            self.assertFalse(one == other)
            self.assertTrue(one != other)


class Runs(unittest.TestCase):
    def test_road_run_for_all_registers_and_answers(self):
        rng = random.Random(138)
        done = 0
        while done < 25:
            book = let_by_book(rng, 4, 1)
            road = drawn_road(rng, book, rng.randrange(1, 5))
            if reads_of(book, road) > 1:
                continue
            middle = middle_of(book, road)
            unlike = first_unlike(lambda regs, told: road_run(book, list(road), regs, told)[0],
                                  lambda regs, told: run_middle(middle, 4, regs, told), 4, 1)
            self.assertIsNone(unlike)
            done += 1

    def test_cut_at_each_ask(self):
        rng = random.Random(1138)
        left = set()
        for _ in range(300):
            book = BOOKS[4] if rng.random() < 0.5 else let_by_book(rng, 4, rng.randrange(1, 5))
            road = drawn_road(rng, book, rng.randrange(1, 9))
            middle = middle_of(book, road)
            regs = [rng.randrange(16) for _ in range(book.registers)]
            answers = [rng.choice((0, 1, 15, rng.randrange(16))) for _ in range(30)]
            asks, handed = run_road(book, road, regs, answers)
            self.assertEqual(run_middle(middle, 4, regs, answers), (asks, handed))
            self.assertEqual(middle_run(middle.lines, middle.marks, 4, regs, answers), (asks, handed))
            for at in range(len(asks)):
                for told in (answers[:at], answers[:at] + [None, 3]):
                    self.assertEqual(run_middle(middle, 4, regs, told), run_road(book, road, regs, told))
                left.add((asks[at][0], handed[0]))
        self.assertGreaterEqual({name for name, _ in left}, {"read", "write", "in", "out", "tick"})

    def test_refused(self):
        middle = middle_of(BOOK, road_of(BOOK, [(0, ("show", ()))]))
        for rows in (*WRONG_ROWS, (), (1,), (1, 2, 3)):
            self.assertEqual(refusal(run_middle, middle, 4, rows, None), ("BadWords", -1))
        for wrong in (-1, 16, *WRONG_NUMBERS):
            self.assertEqual(refusal(run_middle, middle, 4, (3, wrong), None), ("BadWords", 1))
            if wrong is not None:
                self.assertEqual(refusal(run_middle, middle, 4, (3, 4), (0, None, wrong)), ("BadWords", 2))
        for rows in WRONG_ROWS:
            self.assertEqual(refusal(run_middle, middle, 4, (3, 4), rows), ("BadWords", -1))


if __name__ == "__main__":
    unittest.main()

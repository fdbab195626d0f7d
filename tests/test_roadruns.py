"""Runs of roads against answers ([110], [111])."""

import random
import unittest

from helpers import WRONG_NUMBERS, WRONG_ROWS, refusal
from plain import BOOKS, let_by_book
from rowing import all_answers, drawn_pairs, drawn_road, reads_of, road_run
from selfwritten.books import Book
from selfwritten.joins import beginning, joined
from selfwritten.roadruns import go_through, run_road
from selfwritten.roads import road_of

BOOK = BOOKS[4]


class Runs(unittest.TestCase):
    def run_of(self, pairs, regs, answers):
        road = road_of(BOOK, pairs)
        return run_road(BOOK, road, regs, answers), go_through(BOOK, road, regs, answers)

    def test_ticks_stand_between_instructions(self):
        pairs = [(3, ("incr", ())), (4, ("incr", ())), (5, ("swap", ()))]
        through = ((3, (6, 9)), (4, (7, 9)), (5, (8, 9)), (6, (9, 8)))
        for answers, many in (((), 1), ((None, 0), 1), ((0,), 2), ((0, None), 2), ((5, 15), 3), ((0, 0, 0, 0), 3)):
            (asks, handed), gone = self.run_of(pairs, (6, 9), answers)
            self.assertEqual(asks, (("tick",),) * min(many, 2))
            self.assertEqual(handed, (None, many, *through[many]))
            self.assertEqual(gone, through[:many + 1])

    def test_asks_of_instructions(self):
        pairs = [(3, ("ld", ())), (4, ("st", ())), (5, ("ina", ()))]
        (asks, handed), gone = self.run_of(pairs, (6, 9), (2, 0, 0, 0, 7))
        self.assertEqual(asks, (("read", 6), ("tick",), ("write", 6, 2), ("tick",), ("in", 0)))
        self.assertEqual((handed, gone[-1]), ((None, 3, 7, (7, 2)), (7, (7, 2))))
        (asks, handed), gone = self.run_of(pairs, (6, 9), (2, 0, None))
        self.assertEqual((asks[-1], handed), (("write", 6, 2), (11, 1, 4, (6, 2))))
        self.assertEqual(gone, ((3, (6, 9)), (4, (6, 2))))
        (asks, handed), gone = self.run_of(pairs, (6, 9), ())
        self.assertEqual((asks, handed, gone), ((("read", 6),), (10, 0, 3, (6, 9)), ((3, (6, 9)),)))
        (asks, handed), gone = self.run_of(pairs, (6, 9), (2, 0, 0, 0))
        self.assertEqual((asks[-1], handed), (("in", 0), (None, 2, 5, (6, 2))))

    def test_a_must(self):
        pairs = [(3, ("swap", ())), (4, ("must", ()))]
        self.assertEqual(self.run_of(pairs, (0, 9), (0,))[0], ((("tick",),), (13, 1, 4, (9, 0))))
        self.assertEqual(self.run_of(pairs, (2, 9), (0,))[0], ((("tick",),), (None, 2, 5, (9, 9))))

    def test_off_the_road(self):
        pairs = [(3, ("jmp", (8,))), (9, ("nop", ()))]
        self.assertEqual(self.run_of(pairs, (1, 2), (0,))[0], ((), (None, 1, 8, (1, 2))))
        pairs = [(3, ("jmp", (8,))), (8, ("jmp", (3,))), (3, ("jmp", (8,)))]
        self.assertEqual(self.run_of(pairs, (1, 2), (0, 0))[0], ((("tick",),) * 2, (None, 3, 8, (1, 2))))
        pairs = [(3, ("jeq", (9,))), (9, ("incr", ()))]
        self.assertEqual(self.run_of(pairs, (1, 2), (0,))[0], ((), (None, 1, 5, (1, 2))))
        self.assertEqual(self.run_of(pairs, (2, 2), (0,))[0], ((("tick",),), (None, 2, 10, (3, 2))))

    def test_of_one_and_of_eight_instructions(self):
        self.assertEqual(self.run_of([(15, ("nop", ()))], (1, 2), (None,))[0], ((), (None, 1, 0, (1, 2))))
        pairs = [(at % 16, ("incr", ())) for at in range(12, 20)]
        self.assertEqual(self.run_of(pairs, (1, 2), (0,) * 7)[0], ((("tick",),) * 7, (None, 8, 4, (9, 2))))

    def test_drawn_roads(self):
        rng = random.Random(110)
        seen = set()
        for number in range(250):
            book = BOOK if number % 2 else let_by_book(rng, (4, 8)[number % 4 == 2], rng.randrange(1, 4))
            pairs = drawn_pairs(rng, book, rng.randrange(1, 9))
            road = road_of(book, pairs)
            size = 2 ** book.word
            for _ in range(6):
                regs = [rng.randrange(size) for _ in range(book.registers)]
                answers = [rng.choice((None,) + (rng.randrange(size),) * 12) for _ in range(rng.randrange(40))]
                told, through = road_run(book, pairs, tuple(regs), answers)
                self.assertEqual(run_road(book, road, regs, answers), told)
                self.assertEqual(go_through(book, road, regs, answers), tuple(through))
                seen.add((told[1][0], told[1][1]))
        self.assertGreater(len(seen), 20)

    def test_refused(self):
        road = road_of(BOOK, [(3, ("incr", ()))])
        for call in (run_road, go_through):
            for regs in (*WRONG_ROWS, (), (1,), (1, 2, 3)):
                self.assertEqual(refusal(call, BOOK, road, regs, None), ("BadWords", -1))
            for word in (16, -1, *WRONG_NUMBERS):
                self.assertEqual(refusal(call, BOOK, road, (1, word), None), ("BadWords", 1))
            for answers in WRONG_ROWS:
                self.assertEqual(refusal(call, BOOK, road, (1, 2), answers), ("BadWords", -1))
            for answer in (16, -1, True, False, "1"):
                self.assertEqual(refusal(call, BOOK, road, (1, 2), (None, 1, answer)), ("BadWords", 2))


class Joined(unittest.TestCase):
    def test_pairs_of_all(self):
        one, two = road_of(BOOK, [(3, ("incr", ()))]), road_of(BOOK, [(4, ("jmp", (9,))), (3, ("nop", ()))])
        self.assertEqual(list(joined(BOOK, one, two)), list(one) + list(two))
        self.assertTrue(joined(BOOK, one) == one)
        self.assertEqual(joined(BOOK, one, two).way, ("along", (3, 4, 3)))
        self.assertEqual(list(joined(BOOK, one, two, road_of(BOOK, [(4, ("nop", ()))]))), list(one) + list(two) + [(4, ("nop", ()))])

    def test_refused(self):
        one, two = road_of(BOOK, [(3, ("incr", ()))]), road_of(BOOK, [(4, ("jmp", (9,))), (3, ("nop", ()))])
        self.assertEqual(refusal(joined, BOOK), ("BadSource", 0))
        self.assertEqual(refusal(joined, BOOK, two, one), ("BadSource", 2))
        self.assertEqual(refusal(joined, BOOK, one, one), ("BadSource", 1))
        loop = road_of(BOOK, [(4, ("jmp", (4,)))] * 8)
        self.assertIsNone(refusal(joined, BOOK, loop))
        self.assertEqual(refusal(joined, BOOK, loop, loop), ("BadSource", 0))
        self.assertEqual(refusal(joined, Book(4, 1, [("nop", ("0000",), ())]), two), ("BadSource", 0))

    def test_beginnings(self):
        road = road_of(BOOK, [(3, ("incr", ())), (4, ("jmp", (9,))), (3, ("nop", ()))])
        for many in (1, 2, 3):
            self.assertEqual(list(beginning(BOOK, road, many)), list(road)[:many])
        self.assertEqual((beginning(BOOK, road, 2).looks, beginning(BOOK, road, 2).way), ((), ("along", (3, 4))))
        for many in (0, 4, -1, *WRONG_NUMBERS):
            self.assertEqual(refusal(beginning, BOOK, road, many), ("BadNumber", "many"))

    def test_runs_of_joined_roads_and_beginnings(self):
        rng = random.Random(111)
        for number in range(60):
            book = BOOK if number % 2 else let_by_book(rng, 4, 2)
            road = drawn_road(rng, book, rng.randrange(2, 9))
            if reads_of(book, road) > 2:
                continue
            many = rng.randrange(1, len(road))
            first, rest = beginning(book, road, many), road_of(book, list(road)[many:])
            self.assertEqual(list(joined(book, first, rest)), list(road))
            regs = tuple(rng.randrange(16) for _ in range(book.registers))
            for answers, asks, handed in all_answers(lambda told: run_road(book, road, regs, told), 4):
                start = run_road(book, first, regs, answers)
                if start[1][1] < many or start[1][2] != rest.entry:
                    self.assertEqual((asks, handed), start)
                    continue
                done = len(start[0])
                self.assertEqual(asks[:done + 1], start[0] + (("tick",),))
                if len(answers) == done + 1 and answers[-1] is None:
                    self.assertEqual((len(asks), handed), (done + 1, start[1]))
                    continue
                more, (cause, count, place, left) = run_road(book, rest, start[1][3], answers[done + 1:])
                self.assertEqual((asks[done + 1:], handed), (more, (cause, count + many, place, left)))


if __name__ == "__main__":
    unittest.main()

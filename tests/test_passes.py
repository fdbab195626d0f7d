"""Passes over middle rows ([139] to [141])."""

import itertools
import random
import unittest

from helpers import OPS, operation
from plain import BOOKS, let_by_book
from rowing import drawn_road, first_unlike, reads_of, road_run
from selfwritten.middle import Middle, middle_of, run_middle
from selfwritten.passes import dropped, known, late_lines, now_lines, once, plainly, spared, tidy
from trims import (middle_run, own_dropped, own_known, own_late, own_now, own_once, own_plain, own_spared, own_tidy)

PASSES = {"known": (known, own_known), "spared": (spared, own_spared), "once": (once, own_once),
          "dropped": (dropped, own_dropped), "tidy": (tidy, own_tidy), "plainly": (plainly, own_plain)}


def row_of(lines, marks=((0, 0), (0, 0))):
    return Middle(list(lines) + [("end",)], marks)


def drawn_middle(rng, word=4, many=None):
    book = BOOKS[word] if rng.random() < 0.4 and word in BOOKS else let_by_book(rng, word, rng.randrange(1, 5))
    road = drawn_road(rng, book, many or rng.randrange(1, 9))
    return book, road, middle_of(book, road)


class Known(unittest.TestCase):
    def test_every_operation_with_known_numbers_at_each_side(self):
        for op in OPS:
            for number in (0, 1, 7, 15):
                for flip in (False, True):
                    named = (1, 0) if flip else (0, 1)
                    middle = row_of([("get", 0), ("num", number), (op, *named), ("out", 0, 2)], [(0, 0), (1, 2)])
                    after = known(middle, 4)
                    x, y = [None if at == 0 else number for at in named]
                    # What the operation gives tells which shortening may stand there.
                    words = {operation(op, *((number, r) if flip else (r, number)), 4) for r in range(16)}
                    zero = {"add": "r", "or": "r", "xor": "r", "and": 0, "sub": None if flip else "r",
                            "less": None if flip else 0, "same": None}
                    want = None
                    if number == 0:
                        want = zero[op]
                    elif number == 15 and op == "and":
                        want = "r"
                    if want == "r":
                        self.assertEqual(after.lines[2:4], ((op, *named), ("out", 0, 0)))
                        self.assertEqual(after.marks[1], (1, 0))
                    elif want == 0:
                        self.assertEqual(words, {0})
                        self.assertEqual(after.lines[2:4], (("num", 0), ("out", 0, 2)))
                    else:
                        self.assertEqual(after, middle, (op, number, flip, x, y))

    def test_two_numbers_and_one_line_twice(self):
        for op in OPS:
            for x, y in itertools.product((0, 3, 15), repeat=2):
                middle = row_of([("num", x), ("num", y), (op, 0, 1), ("out", 0, 2)], [(0, 0), (2, 2)])
                after = known(middle, 4)
                self.assertEqual(after.lines[2:4], (("num", operation(op, x, y, 4)), ("out", 0, 2)))
                self.assertEqual(after.marks, middle.marks)
            twice = known(row_of([("get", 0), (op, 0, 0), ("out", 0, 1)], [(0, 0), (1, 1)]), 4)
            if op == "add":
                self.assertEqual(twice.lines[1:3], (("add", 0, 0), ("out", 0, 1)))
            elif op in ("and", "or"):
                self.assertEqual((twice.lines[1:3], twice.marks[1]), (((op, 0, 0), ("out", 0, 0)), (0, 0)))
            else:
                self.assertEqual(twice.lines[1], ("num", 1 if op == "same" else 0))

    def test_new_names_count_at_once(self):
        lines = [("get", 0), ("num", 0), ("add", 0, 1), ("xor", 0, 2), ("num", 4), ("sub", 4, 3), ("write", 2, 5)]
        after = known(row_of(lines, [(2, 3), (5, 2)]), 4)
        self.assertEqual(after.lines[2:7], (("add", 0, 1), ("num", 0), ("num", 4), ("num", 4), ("write", 0, 5)))
        self.assertEqual(after.marks, ((0, 3), (5, 0)))

    def test_all_ones_are_those_of_the_width(self):
        middle = row_of([("get", 0), ("num", 15), ("and", 0, 1), ("out", 0, 2)])
        self.assertEqual(known(middle, 4).lines[3], ("out", 0, 0))
        self.assertEqual(known(middle, 5), middle)


class Others(unittest.TestCase):
    def test_spared(self):
        for number in (0, 1, 9):
            lines = [("get", 0), ("num", number), ("must", 1, 12), ("must", 0, 13), ("keep", 1, 9), ("keep", 0, 9), ("tick",)]
            after = spared(row_of(lines, [(1, 0), (1, 1)]), 4).lines
            self.assertEqual(("must", 1, 12) in after, number == 0)
            self.assertEqual(("keep", 1, 9) in after, number != 9)
            self.assertTrue({("must", 0, 13), ("keep", 0, 9), ("tick",), ("end",)} <= set(after))

    def test_lines_are_numbered_anew(self):
        lines = [("get", 0), ("num", 1), ("must", 1, 12), ("add", 0, 1), ("keep", 1, 1), ("sub", 3, 1), ("out", 2, 5)]
        after = spared(row_of(lines, [(3, 0), (5, 3)]), 4)
        self.assertEqual(after.lines, (("get", 0), ("num", 1), ("add", 0, 1), ("sub", 2, 1), ("out", 2, 3), ("end",)))
        self.assertEqual(after.marks, ((2, 0), (3, 2)))

    def test_once(self):
        lines = [("get", 0), ("num", 3), ("num", 3), ("add", 0, 1), ("add", 0, 2), ("add", 2, 0), ("read", 3), ("read", 4),
                 ("must", 4, 12), ("must", 3, 12)]
        after = once(row_of(lines, [(2, 4), (5, 2)]), 4)
        self.assertEqual(after.lines[:-1], (("get", 0), ("num", 3), ("num", 3), ("add", 0, 1), ("add", 0, 1), ("add", 1, 0),
                                            ("read", 3), ("read", 3), ("must", 3, 12), ("must", 3, 12)))
        self.assertEqual(after.marks, ((1, 3), (5, 1)))

    def test_dropped(self):
        lines = [("get", 0), ("get", 1), ("num", 1), ("num", 2), ("add", 0, 2), ("add", 4, 3), ("in", 3), ("read", 4), ("num", 5)]
        after = dropped(row_of(lines, [(8, 0, 0), (8, 0, 7)]), 4)
        self.assertEqual(after.lines, (("get", 0), ("get", 1), ("num", 1), ("add", 0, 2), ("in", 3), ("read", 3), ("num", 5), ("end",)))
        self.assertEqual(after.marks, ((6, 0, 0), (6, 0, 5)))

    def test_now_and_late(self):
        lines = [("get", 0), ("get", 1), ("num", 1), ("num", 2), ("add", 0, 2), ("add", 4, 3), ("in", 3), ("read", 4), ("tick",),
                 ("sub", 5, 4)]
        middle = row_of(lines, [(3, 0, 0), (3, 0, 7), (9, 5, 1)])
        self.assertEqual(now_lines(middle), (0, 2, 4, 6, 7, 8, 10))
        self.assertEqual(late_lines(middle), (5, 9))

    def test_nothing_is_changed(self):
        rng = random.Random(5139)
        _, _, middle = drawn_middle(rng)
        before = (middle.lines, middle.marks)
        for one, _ in PASSES.values():
            one(middle, 4)
        self.assertEqual((middle.lines, middle.marks), before)


class Drawn(unittest.TestCase):
    def test_against_own_passes_in_any_order(self):
        rng = random.Random(139)
        for _ in range(250):
            word = rng.choice((4, 4, 5, 8))
            _, _, middle = drawn_middle(rng, word)
            for _ in range(rng.randrange(1, 6)):
                name = rng.choice(list(PASSES))
                own = PASSES[name][1](list(middle.lines), list(middle.marks), word)
                middle = PASSES[name][0](middle, word)
                self.assertEqual((middle.lines, middle.marks), (tuple(own[0]), tuple(own[1])), name)
                self.assertEqual(now_lines(middle), tuple(own_now(middle.lines)))
                self.assertEqual(late_lines(middle), tuple(own_late(middle.lines)))

    def test_same_runs_in_any_order(self):
        rng = random.Random(2139)
        for _ in range(200):
            book, road, middle = drawn_middle(rng)
            for _ in range(rng.randrange(1, 7)):
                middle = rng.choice(list(PASSES.values()))[0](middle, 4)
            for _ in range(8):
                regs = tuple(rng.choice((0, 1, 15, rng.randrange(16))) for _ in range(book.registers))
                answers = [rng.choice((0, 1, 15, rng.randrange(16))) for _ in range(rng.randrange(25))]
                wanted = road_run(book, list(road), regs, answers)[0]
                self.assertEqual(run_middle(middle, 4, regs, answers), wanted)
                self.assertEqual(middle_run(middle.lines, middle.marks, 4, regs, answers), wanted)

    def test_same_runs_for_all_registers_and_answers(self):
        rng = random.Random(3139)
        done = 0
        while done < 12:
            book = let_by_book(rng, 4, 1)
            road = drawn_road(rng, book, rng.randrange(1, 5))
            if reads_of(book, road) > 1:
                continue
            for one, _ in PASSES.values():
                middle = one(middle_of(book, road), 4)
                self.assertIsNone(first_unlike(lambda regs, told: road_run(book, list(road), regs, told)[0],
                                               lambda regs, told: run_middle(middle, 4, regs, told), 4, 1))
            done += 1

    def measure(self, middle):
        ops = [line for line in middle.lines if line[0] in OPS]
        named = [number for line in middle.lines for number in self.named(line)]
        named += [number for mark in middle.marks for number in mark]
        return len(middle.lines), len(ops), sum(named)

    def named(self, line):
        if line[0] in OPS or line[0] in ("write", "read"):
            return line[1:]
        return line[1:2] if line[0] in ("must", "keep") else line[2:] if line[0] == "out" else ()

    def test_each_time_lessens_and_a_second_use_changes_nothing(self):
        rng = random.Random(140)
        for _ in range(200):
            _, _, middle = drawn_middle(rng)
            for whole, parts in ((tidy, (known, spared, once, dropped)), (plainly, (once, dropped))):
                present = middle
                while True:
                    after = present
                    for one in parts:
                        after = one(after, 4)
                    if after == present:
                        break
                    self.assertLess(self.measure(after), self.measure(present))
                    present = after
                self.assertEqual(whole(middle, 4), present)
                self.assertEqual(whole(present, 4), present)


if __name__ == "__main__":
    unittest.main()

"""Runs of house rows ([101])."""

import random
import unittest

from helpers import WRONG_NUMBERS, WRONG_ROWS, refusal
from housing import house_of, pair_of
from rowing import row_run
from selfwritten.books import Book
from selfwritten.pairs import Pair
from selfwritten.rowruns import Running, run_row
from selfwritten.rows import Row

NOP = Book(4, 2, [("nop", ("0000",), ())])
PAIR = pair_of(NOP, 6, 4, ops=())


def row_of(steps, late=(), hands=None):
    """A row with an end; by default its hands are the place 9 and the first registers, at the boundary b 9 + b."""
    steps = list(steps) + [("end",)]
    if hands is None:
        many = steps.count(("tick",)) + 2
        late = [("slot", 0), ("slot", 1)] + [("num", 9 + at) for at in range(many)]
        hands = [(2 + at, 0, 1) for at in range(many)]
    return Row(steps, late, hands)


class Steps(unittest.TestCase):
    def left(self, steps, late, hand, answers=(), regs=(3, 5), place=7):
        """The place and registers handed over at the end."""
        row = Row(list(steps) + [("end",)], late, [hand] * (2 + list(steps).count(("tick",))))
        asks, handed, count = run_row(PAIR, row, place, regs, answers)
        self.assertEqual((handed[0], count), (None, len(row.steps)))
        return handed[2:]

    def test_what_is_there_at_the_entry(self):
        late = [("slot", at) for at in range(5)] + [("reg", at) for at in range(4)]
        for hand, wanted in (((0, 1, 2), (3, (5, 7))), ((3, 4, 2), (0, (0, 7))), ((5, 6, 7), (0, (0, 0)))):
            self.assertEqual(self.left([], late, hand), wanted)

    def test_orders(self):
        late = [("reg", 0), ("reg", 1), ("reg", 2)]
        steps = [("load", 0, 0), ("load", 1, 1), ("order", "plus", 2, 0, 1, 0)]
        self.assertEqual(self.left(steps, late, (2, 0, 1)), (8, (3, 5)))
        self.assertEqual(self.left(steps + [("order", "minus", 0, 0, 2, 0)], late, (2, 0, 1)), (8, (59, 5)))
        self.assertEqual(self.left([("order", "fill", 1, 0, 0, 63), ("order", "more", 1, 1, 0, 3)], late, (1, 0, 2)),
                         (2, (0, 0)))

    def test_loads_and_saves(self):
        late = [("slot", 900), ("slot", 0), ("reg", 3)]
        steps = [("load", 3, 2), ("save", 900, 3), ("load", 3, 901), ("save", 0, 3)]
        self.assertEqual(self.left(steps, late, (0, 1, 2)), (7, (0, 0)))

    def test_answers_are_words_of_house_registers(self):
        late = [("reg", 0), ("reg", 1), ("slot", 1)]
        steps = [("load", 0, 0), ("read", 1, 0), ("in", 0, 5)]
        self.assertEqual(self.left(steps, late, (1, 0, 2), (14, 2)), (14, (2, 5)))

    def test_late_words_are_reckoned_when_the_row_is_left(self):
        late = [("slot", 0), ("reg", 1), ("num", 60), ("add", 1, 2), ("sub", 0, 2), ("less", 1, 2)]
        steps = [("load", 1, 0), ("tick",), ("load", 1, 1), ("save", 0, 1)]
        self.assertEqual(self.left(steps, late, (3, 4, 5), (0,)), (1, (9, 1)))
        row = Row(steps + [("end",)], late, [(3, 4, 5)] * 3)
        self.assertEqual(run_row(PAIR, row, 0, (3, 5), ())[1], (None, 1, 63, (7, 1)))


class Leaves(unittest.TestCase):
    def test_where_and_with_what(self):
        asking = (("read", ("read", 1, 0), ("read", 3), 10), ("write", ("write", 0, 1), ("write", 3, 0), 11),
                  ("in", ("in", 1, 4), ("in", 4), None), ("out", ("out", 8, 0), ("out", 8, 3), None))
        for ticks in range(4):
            ahead, yes = [("load", 0, 0)] + [("tick",)] * ticks, (0,) * ticks
            ask = (("tick",),) * ticks
            for name, step, told, cause in asking:
                row = row_of(ahead + [step, ("tick",)])
                wanted = (ask + (told,), (cause, ticks, 9 + ticks, (3, 5)), ticks + 2)
                for answers in (yes, yes + (None,), yes + (None, 5)):
                    self.assertEqual(run_row(PAIR, row, 0, (3, 5), answers), wanted, name)
            row = row_of(ahead + [("tick",)])
            wanted = (ask + (("tick",),), (None, ticks + 1, 10 + ticks, (3, 5)), ticks + 2)
            self.assertEqual(run_row(PAIR, row, 0, (3, 5), yes), wanted)
            row = row_of(ahead + [("must", 1, 14), ("tick",)])
            self.assertEqual(run_row(PAIR, row, 0, (3, 5), yes), (ask, (14, ticks, 9 + ticks, (3, 5)), ticks + 2))
            row = row_of(ahead + [("keep", 0, 4)])
            self.assertEqual(run_row(PAIR, row, 0, (3, 5), yes), (ask, (None, ticks + 1, 10 + ticks, (3, 5)), ticks + 2))
            row = row_of(ahead)
            self.assertEqual(run_row(PAIR, row, 0, (3, 5), yes), (ask, (None, ticks + 1, 10 + ticks, (3, 5)), ticks + 2))

    def test_steps_that_go_on(self):
        row = row_of([("load", 0, 0), ("must", 0, 12), ("keep", 0, 3), ("keep", 1, 0)])
        self.assertEqual(run_row(PAIR, row, 0, (3, 5), ()), ((), (None, 1, 10, (3, 5)), 5))

    def test_words_of_more_bits_than_the_guest_has(self):
        # A must looks at all bits, and so does a keep.
        row = row_of([("order", "fill", 0, 0, 0, 48), ("must", 0, 12), ("keep", 0, 0)])
        self.assertEqual(run_row(PAIR, row, 0, (3, 5), ()), ((), (None, 1, 10, (3, 5)), 3))

    def test_any_word_means_yes(self):
        for word in (0, 1, 15):
            row = row_of([("tick",), ("write", 0, 0), ("out", 0, 0)])
            self.assertEqual(run_row(PAIR, row, 0, (3, 5), (word,) * 3)[1:], ((None, 2, 11, (3, 5)), 4))


class Objects(unittest.TestCase):
    ROW = row_of([("load", 0, 0), ("read", 1, 0), ("save", 5, 1), ("tick",), ("must", 1, 13)])

    def test_attributes(self):
        running = Running(PAIR, self.ROW, 7, [3, 5])
        self.assertEqual((running.at, running.done, running.words, running.slots), (0, 0, [0] * 4, {0: 3, 1: 5, 2: 7}))
        self.assertEqual((running.pending(), running.go("nothing")), (None, None))
        self.assertEqual((running.at, running.words[0], running.pending()), (1, 3, ("read", 3)))
        self.assertIsNone(running.go(9))
        self.assertIsNone(running.go())
        self.assertEqual((running.slots, running.at, running.done), ({0: 3, 1: 5, 2: 7, 5: 9}, 3, 0))
        self.assertEqual(running.pending(), ("tick",))
        self.assertIsNone(running.go(0))
        self.assertEqual((running.at, running.done, running.pending()), (4, 1, None))
        self.assertIsNone(running.go())
        self.assertEqual(running.go(), (None, 2, 11, (3, 5)))
        self.assertEqual((running.at, running.pending(), running.done), (6, None, 1))
        self.assertEqual(refusal(running.go), ("IsOver",))
        self.assertEqual(refusal(running.go, 99), ("IsOver",))

    def test_left_at_a_step_within(self):
        running = Running(PAIR, self.ROW, 7, (3, 5))
        running.go()
        self.assertEqual(running.go(), (10, 0, 9, (3, 5)))
        self.assertEqual((running.at, running.done, running.pending()), (6, 0, None))
        self.assertEqual(refusal(running.go, None), ("IsOver",))

    def test_hand(self):
        running = Running(PAIR, self.ROW, 7, (3, 5))
        self.assertEqual([running.hand(at) for at in range(3)], [(9, (3, 5)), (10, (3, 5)), (11, (3, 5))])
        late = [("reg", 0), ("slot", 5), ("add", 0, 1)]
        running = Running(PAIR, Row(self.ROW.steps, late, [(0, 1, 2)] * 3), 7, (3, 5))
        told = [running.hand(1)]
        for answer in (None, 8, None, 1):
            running.go(answer)
            told.append(running.hand(1))
        self.assertEqual(told, [(0, (0, 0)), (3, (0, 3)), (3, (0, 3)), (3, (8, 11)), (3, (8, 11))])
        for index in (-1, 3, *WRONG_NUMBERS):
            self.assertEqual(refusal(running.hand, index), ("BadNumber", "index"))

    def test_copy(self):
        running = Running(PAIR, self.ROW, 7, (3, 5))
        running.go()
        running.go(9)
        twin = running.copy()
        self.assertIsInstance(twin, Running)
        facts = (running.at, running.done, list(running.words), dict(running.slots))
        self.assertEqual((twin.at, twin.done, twin.words, twin.slots), facts)
        twin.go()
        twin.go(0)
        self.assertEqual((running.at, running.done, running.words, running.slots), facts)
        self.assertEqual([twin.go(), twin.go()], [None, (None, 2, 11, (3, 5))])
        running.go()
        self.assertEqual(running.go(), (None, 1, 10, (3, 5)))
        self.assertEqual(running.copy().pending(), None)
        self.assertEqual(refusal(running.copy().go), ("IsOver",))

    def test_wrong_answers(self):
        for answers_ahead, step in ((1, "read"), (3, "tick")):
            running = Running(PAIR, self.ROW, 7, (3, 5))
            for _ in range(answers_ahead):
                running.go(9)
            for answer in (16, -1, True, False, "1", 1.0, (1,)):
                self.assertEqual(refusal(running.go, answer), ("BadNumber", "answer"), step)
            self.assertEqual(running.at, answers_ahead)
            self.assertIsNone(running.go(15))


class Refusals(unittest.TestCase):
    def test_the_row_first(self):
        row = Row([("load", 4, 0), ("end",)], [("num", 0)], [(0, 0, 0)] * 2)
        for call in (Running, lambda *rest: run_row(*rest, None)):
            self.assertEqual(refusal(call, PAIR, row, None, None), ("BadRow", 0))
            row = row_of([])
            for place in (16, -1, *WRONG_NUMBERS):
                self.assertEqual(refusal(call, PAIR, row, place, None), ("BadNumber", "place"))
            for regs in (*WRONG_ROWS, (), (1,), (1, 2, 3)):
                self.assertEqual(refusal(call, PAIR, row, 15, regs), ("BadWords", -1))
            for at in range(2):
                for word in (16, -1, *WRONG_NUMBERS):
                    regs = [0, 0]
                    regs[at] = word
                    self.assertEqual(refusal(call, PAIR, row, 15, regs), ("BadWords", at))
            row = Row([("load", 4, 0), ("end",)], [("num", 0)], [(0, 0, 0)] * 2)

    def test_answers_last(self):
        row = row_of([("tick",)])
        for answers in WRONG_ROWS:
            self.assertEqual(refusal(run_row, PAIR, row, 0, (0, 0), answers), ("BadWords", -1))
        for answer in (16, -1, True, "1", 1.0):
            self.assertEqual(refusal(run_row, PAIR, row, 0, (0, 0), (None, 3, answer)), ("BadWords", 2))
        self.assertEqual(refusal(run_row, PAIR, row, 0, (0, 16), None), ("BadWords", 1))


class Drawn(unittest.TestCase):
    def test_against_runs_of_the_tests(self):
        rng = random.Random(101)
        counts = set()
        for _ in range(250):
            word = rng.choice((4, 4, 8))
            width, registers = rng.choice((word, 12)), rng.randrange(3, 9)
            pair = Pair(Book(word, 2, [("nop", ("0" * word,), ())]), house_of(word, width, registers, ops=()))
            row = self.drawn_row(rng, pair)
            for _ in range(5):
                place, regs = rng.randrange(2 ** word), (rng.randrange(2 ** word), rng.randrange(2 ** word))
                answers = [rng.choice((None, 0, 1) + (rng.randrange(2 ** word),) * 9) for _ in range(rng.randrange(14))]
                told = run_row(pair, row, place, regs, answers)
                self.assertEqual(told, row_run(pair, row, place, regs, answers))
                counts.add(told[2])
        self.assertGreater(len(counts), 12)

    def drawn_row(self, rng, pair):
        registers, top = pair.house.registers, 2 ** pair.house.width
        steps = []
        for _ in range(rng.randrange(30)):
            kind = rng.choice(("order", "order", "load", "save", "read", "in", "write", "out", "tick", "must", "keep"))
            r, x, y, s = (rng.randrange(registers) for _ in range(4))
            s = rng.randrange(6)
            if kind == "order":
                name, letters, _ = rng.choice(pair.house.orders)
                steps.append((kind, name, r, x * ("x" in letters), y * ("y" in letters), rng.randrange(top) * ("n" in letters)))
            else:
                steps.append({"load": (kind, r, s), "save": (kind, s, r), "read": (kind, r, x), "in": (kind, r, s),
                              "write": (kind, x, y), "out": (kind, s, x), "tick": (kind,), "must": (kind, r, 12 + s % 4),
                              "keep": (kind, r, rng.choice((0, 0, 1)))}[kind])
        late = [("num", rng.randrange(top)), ("slot", 0)]
        for at in range(2, 9):
            late.append(rng.choice((("slot", rng.randrange(6)), ("reg", rng.randrange(registers)),
                                    (rng.choice(("add", "sub", "xor", "less", "same")), rng.randrange(at), rng.randrange(at)))))
        hands = [[rng.randrange(9) for _ in range(3)] for _ in range(steps.count(("tick",)) + 2)]
        return Row(steps + [("end",)], late, hands)


if __name__ == "__main__":
    unittest.main()

"""House rows: steps, late words, hands, boundaries and prices ([99] to [102])."""

import random
import unittest

from helpers import OPS, WRONG_NUMBERS, WRONG_ROWS, refusal
from housing import pair_of
from selfwritten.books import Book
from selfwritten.rows import Row, check_row, handed_parts, price, segment_of

STEPS = [("order", "plus", 2, 0, 1, 0), ("load", 0, 99), ("save", 99, 0), ("read", 1, 0), ("in", 1, 5), ("write", 0, 1),
         ("out", 9, 1), ("must", 1, 12), ("keep", 0, 15), ("tick",), ("end",)]
LATE = [("slot", 0), ("slot", 77), ("reg", 2), ("num", 9), ("add", 0, 3), ("xor", 4, 4), ("less", 5, 0)]
HANDS = [(0, 1), (4, 6), (3, 3)]


def wrong(steps=STEPS, late=LATE, hands=HANDS):
    return refusal(Row, steps, late, hands)


class Attributes(unittest.TestCase):
    def test_tuples(self):
        steps, late, hands = [list(step) for step in STEPS], [list(one) for one in LATE], [list(one) for one in HANDS]
        row = Row(steps, late, hands)
        self.assertEqual((row.steps, row.late, row.hands), (tuple(STEPS), tuple(LATE), tuple(HANDS)))
        steps[1][1], late[0][1], hands[0][0] = 5, 5, 5
        hands.append((0, 0))
        self.assertEqual((row.steps, row.late, row.hands), (tuple(STEPS), tuple(LATE), tuple(HANDS)))

    def test_equal(self):
        row = Row(STEPS, LATE, HANDS)
        self.assertTrue(row == Row(tuple(STEPS), [list(one) for one in LATE], HANDS))
        for other in (Row(STEPS[1:], LATE, HANDS), Row(STEPS, LATE + [("num", 0)], HANDS),
                      Row(STEPS, LATE, [(1, 0)] + HANDS[1:]), None, 3, STEPS):
            self.assertFalse(row == other)

    def test_the_least_row(self):
        row = Row([("end",)], [("num", 0)], [(0,), (0,)])
        self.assertEqual((row.steps, row.late, row.hands), ((("end",),), (("num", 0),), ((0,), (0,))))

    def test_any_numbers_and_names(self):
        big = 10 ** 30
        steps = [("order", "", big, big, big, big), ("order", "No such order!", 0, 0, 0, 0), ("load", big, big),
                 ("must", big, big), ("keep", 0, big), ("out", big, 0), ("in", 0, big), ("end",)]
        self.assertIsNone(wrong(steps, [("slot", big), ("reg", big), ("num", big)], [(0,), (2, 1, 0, 2, 1)]))


class Wrong(unittest.TestCase):
    def test_steps(self):
        for steps in WRONG_ROWS:
            self.assertEqual(wrong(steps, None, None), ("BadRow", 0))
        entries = [*WRONG_ROWS, (), ("nop",), ("End",), (None,), (0, 1), (["end"],), ("end", 0), ("tick", 0), ("load", 0),
                   ("load", 0, 0, 0), ("load", -1, 0), ("load", 0, -1), ("load", True, 0), ("load", 0, None), ("save", 0),
                   ("save", 0, 1.0), ("read", 0), ("read", 0, "0"), ("in", 0), ("in", 0, False), ("write", 0),
                   ("write", -1, 0), ("out", 0), ("out", -1, 0), ("must", 0), ("must", 0, -12), ("keep", 0),
                   ("keep", 0, True), ("order", "plus", 0, 0, 0), ("order", "plus", 0, 0, 0, 0, 0),
                   ("order", 3, 0, 0, 0, 0), ("order", None, 0, 0, 0, 0), ("order", ["plus"], 0, 0, 0, 0),
                   ("order", "plus", -1, 0, 0, 0), ("order", "plus", 0, True, 0, 0), ("order", "plus", 0, 0, "x", 0),
                   ("order", "plus", 0, 0, 0, None), ("slot", 0), ("num", 0), ("add", 0, 0)]
        for entry in entries:
            for at in (0, 4, 10):
                steps = STEPS[:at] + [entry] + STEPS[at:]
                self.assertEqual(wrong(steps, None, None), ("BadRow", at), entry)
        self.assertEqual(wrong([("tick",), None, ("load",)]), ("BadRow", 1))

    def test_end_stands_once_and_last(self):
        for steps in ([], [("tick",)], STEPS[:-1], STEPS + [("tick",)], STEPS + [("end",)], [("end",), ("end",)]):
            self.assertEqual(wrong(steps, None, None), ("BadRow", len(steps)))
            self.assertEqual(wrong(steps), ("BadRow", len(steps)))
            hands = [(0, 1)] * (steps.count(("tick",)) + 2)
            self.assertEqual(wrong(steps, hands=hands), ("BadRow", len(steps)))
        # A wrong step is told ahead of it.
        self.assertEqual(wrong([("end",), ("end",), None]), ("BadRow", 2))

    def test_late_words(self):
        for late in WRONG_ROWS:
            self.assertEqual(wrong(late=late, hands=None), ("BadRow", 11))
        entries = [*WRONG_ROWS, (), ("get", 0), ("Slot", 0), (None, 0), (0, 0), (["slot"], 0), ("slot",), ("slot", -1),
                   ("slot", True), ("slot", None), ("slot", 0, 0), ("reg",), ("reg", -1), ("num",), ("num", -1),
                   ("num", False), ("add", 0), ("add", 0, 0, 0), ("add", -1, 0), ("add", 0, None), ("add", True, 0),
                   ("add", 2, 0), ("add", 0, 2), ("add", 0, 3), ("order", 0, 0), ("end",)]
        for entry in entries:
            late = LATE[:2] + [entry] + LATE
            self.assertEqual(wrong(late=late, hands=None), ("BadRow", 13), entry)
        for op in OPS:
            self.assertIsNone(wrong(late=LATE + [(op, 0, 6)]))
            self.assertEqual(wrong(late=[(op, 0, 0)] + LATE), ("BadRow", 11))

    def test_hands(self):
        for hands in (*WRONG_ROWS, [], HANDS[:2], HANDS + [(0,)]):
            self.assertEqual(wrong(hands=hands), ("BadRow", 18), hands)
        for hand in (*WRONG_ROWS, (), (7,), (0, -1), (0, 7), (True,), (0, None), ("0",)):
            for at in range(3):
                hands = HANDS[:at] + [hand] + HANDS[at + 1:]
                self.assertEqual(wrong(hands=hands), ("BadRow", 18 + at), hand)
        self.assertEqual(wrong(late=[], hands=[(0,)] * 3), ("BadRow", 11))
        self.assertEqual(wrong(hands=[(0,), (6,), (9,)]), ("BadRow", 20))


class Fits(unittest.TestCase):
    """Rows for a pair of width 4 and 6, with 2 guest registers and 4 house registers."""

    PAIR = pair_of(Book(4, 2, [("nop", ("0000",), ())]), 6, 4, ops=())
    LATE = [("slot", 0)]
    HANDS = [(0, 0, 0), (0, 0, 0)]

    def told(self, step, late=LATE, hands=None):
        hands = hands or [(0, 0, 0)] * (3 if step == ("tick",) else 2)
        return refusal(check_row, self.PAIR, Row([("load", 0, 9), step, ("end",)], late, hands))

    def test_steps(self):
        good = [("order", "plus", 3, 3, 3, 0), ("order", "mask", 3, 3, 0, 63), ("order", "fill", 0, 0, 0, 63),
                ("load", 3, 10 ** 9), ("save", 10 ** 9, 3), ("read", 3, 3), ("in", 3, 5), ("in", 0, 0), ("write", 3, 3),
                ("out", 9, 3), ("out", 0, 0), ("must", 3, 12), ("must", 0, 15), ("keep", 3, 15), ("keep", 0, 0), ("tick",)]
        for step in good:
            self.assertIsNone(self.told(step), step)
        bad = [("order", "nope", 0, 0, 0, 0), ("order", "", 0, 0, 0, 0), ("order", "plus", 4, 0, 0, 0),
               ("order", "plus", 0, 4, 0, 0), ("order", "plus", 0, 0, 4, 0), ("order", "plus", 0, 0, 0, 1),
               ("order", "mask", 0, 0, 1, 0), ("order", "mask", 0, 0, 0, 64), ("order", "mask", 0, 4, 0, 0),
               ("order", "fill", 0, 1, 0, 0), ("order", "fill", 0, 0, 1, 0), ("order", "fill", 0, 0, 0, 64),
               ("load", 4, 0), ("save", 0, 4), ("read", 4, 0), ("read", 0, 4), ("in", 4, 0), ("in", 0, 6), ("write", 4, 0),
               ("write", 0, 4), ("out", 10, 0), ("out", 0, 4), ("must", 4, 12), ("must", 0, 11), ("must", 0, 16),
               ("must", 0, 0), ("keep", 4, 0), ("keep", 0, 16)]
        for step in bad:
            self.assertEqual(self.told(step), ("BadRow", 1), step)

    def test_late_words(self):
        for late in (("reg", 3), ("num", 63), ("slot", 10 ** 9), ("add", 0, 0)):
            self.assertIsNone(self.told(("load", 0, 0), [("slot", 0), late]))
        for late in (("reg", 4), ("num", 64)):
            self.assertEqual(self.told(("load", 0, 0), [("slot", 0), late]), ("BadRow", 4))

    def test_hands(self):
        for at in range(2):
            for hand in ((0,), (0, 0), (0, 0, 0, 0)):
                hands = list(self.HANDS)
                hands[at] = hand
                self.assertEqual(self.told(("load", 0, 0), self.LATE, hands), ("BadRow", 4 + at))

    def test_the_first_wrong_one_is_told(self):
        row = Row([("load", 4, 0), ("load", 4, 0), ("end",)], [("reg", 4)], [(0,), (0,)])
        self.assertEqual(refusal(check_row, self.PAIR, row), ("BadRow", 0))
        row = Row([("end",)], [("num", 0), ("reg", 4), ("num", 64)], [(0,), (0,)])
        self.assertEqual(refusal(check_row, self.PAIR, row), ("BadRow", 2))
        row = Row([("end",)], [("num", 0)], [(0,), (0,)])
        self.assertEqual(refusal(check_row, self.PAIR, row), ("BadRow", 2))


class Prices(unittest.TestCase):
    def test_segments(self):
        row = Row([("tick",), ("load", 0, 0), ("tick",), ("tick",), ("end",)], [("num", 0)], [(0,)] * 5)
        self.assertEqual([segment_of(row, at) for at in range(5)], [0, 1, 1, 2, 3])
        for at in (-1, 5, *WRONG_NUMBERS):
            self.assertEqual(refusal(segment_of, row, at), ("BadNumber", "at"))

    def test_each_late_word_counts_once(self):
        late = [("slot", 0), ("num", 1), ("add", 0, 1), ("add", 2, 2), ("xor", 3, 2), ("sub", 0, 0), ("reg", 1),
                ("less", 4, 3)]
        for hand, many in (((0, 1), 0), ((2, 0), 1), ((2, 2), 1), ((3, 0), 2), ((3, 2), 2), ((4, 6), 3), ((4, 3), 3),
                           ((5, 4), 4), ((7, 0), 4), ((7, 5), 5), ((6, 6), 0)):
            row = Row([("end",)], late, [(0, 0), hand])
            self.assertEqual(handed_parts(row, 1), many, hand)
            self.assertEqual(handed_parts(row, 0), 0)
        for index in (-1, 2, *WRONG_NUMBERS):
            self.assertEqual(refusal(handed_parts, row, index), ("BadNumber", "index"))

    def test_each_leave_pays_its_hand(self):
        late = [("slot", 0), ("add", 0, 0), ("add", 1, 0), ("add", 2, 0)]
        steps = [("read", 0, 0), ("tick",), ("write", 0, 0), ("in", 0, 0), ("keep", 0, 0), ("tick",), ("out", 0, 0),
                 ("must", 0, 12), ("order", "plus", 0, 0, 0, 0), ("load", 0, 0), ("save", 0, 0), ("end",)]
        row = Row(steps, late, [(0,), (1,), (2,), (3,)])
        wanted = [1, 3, 4, 5, 7, 8, 9, 10, None, None, None, 15]
        for at, told in enumerate(wanted):
            if told is None:
                self.assertEqual(refusal(price, row, at), ("BadNumber", "at"))
            else:
                self.assertEqual(price(row, at), told)
        for at in (-1, 12, *WRONG_NUMBERS):
            self.assertEqual(refusal(price, row, at), ("BadNumber", "at"))

    def test_drawn_rows(self):
        rng = random.Random(102)
        for _ in range(100):
            steps = [rng.choice(STEPS[:-1]) for _ in range(rng.randrange(12))] + [("end",)]
            late = [("slot", 0), ("num", 3)]
            while len(late) < 12:
                late.append((rng.choice(OPS), rng.randrange(len(late)), rng.randrange(len(late))))
            ticks = steps.count(("tick",))
            hands = [[rng.randrange(12) for _ in range(3)] for _ in range(ticks + 2)]
            row = Row(steps, late, hands)
            ahead = 0
            for at, step in enumerate(steps):
                self.assertEqual(segment_of(row, at), ahead)
                if step[0] not in ("order", "load", "save"):
                    boundary = ahead + (step[0] in ("tick", "keep", "end"))
                    named, waiting = set(), list(hands[boundary])
                    while waiting:
                        index = waiting.pop()
                        if late[index][0] in OPS:
                            named.add(index)
                            waiting.extend(late[index][1:])
                    self.assertEqual(price(row, at), at + 1 + len(named))
                    self.assertEqual(handed_parts(row, boundary), len(named))
                ahead += step == ("tick",)


if __name__ == "__main__":
    unittest.main()

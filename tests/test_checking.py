"""Books that are let by ([55], [56])."""

import random
import unittest
from unittest import mock

from helpers import refusal
from model import all_runs, drawn_apart, drawn_book, is_whole, numbers_of, share
from selfwritten.books import Book
from selfwritten.checking import check_book, is_let_by
from selfwritten.codes import decoded, encoded
from selfwritten.deeds import run_code, whole
from selfwritten.errors import HalfDone, OneCode
from selfwritten.halves import half_run
from selfwritten.solving import solved

GET, READ, IN, OUT, WRITE = ("get", 0), ("read", 0), ("in", 0), ("out", 0, 0), ("write", 0, 0)
NOP = ("nop", ["0000"], ())
HALF = ("half", ["0001"], [GET, OUT, READ])
CHAIN = [IN, GET, ("less", 1, 0)] + [("less", 2 + k, k % 2) for k in range(7)] + [("must", 9, 12)]


def book_of(*forms, word=4, registers=1):
    return Book(word, registers, forms)


class Checked(unittest.TestCase):
    def test_let_by(self):
        books = (
            book_of(NOP),
            book_of(("all", ["mmmm"], [GET, READ, ("must", 1, 12), WRITE])),
            book_of(NOP, ("one", ["0001"], [GET, OUT]), ("two", ["001m", "0000"], [GET, READ, READ, WRITE])),
            Book(8, 4, [("f" + "abcdefghijklmnopqrstuvwxyz"[k % 26] + "x" * (k // 26), [format(k, "08b")],
                         [GET] * 12) for k in range(32)]),
        )
        for book in books:
            self.assertIsNone(check_book(book))
            self.assertIs(is_let_by(book), True)

    def test_one_code(self):
        book = book_of(NOP, ("one", ["01mm"], ()), ("two", ["0n11", "nn01"], ()), ("six", ["01mm"], ()))
        self.assertEqual(refusal(check_book, book), ("OneCode", "one", "two", (7, 1)))
        self.assertIs(is_let_by(book), False)

    def test_half_done(self):
        book = book_of(NOP, HALF)
        with self.assertRaises(HalfDone) as caught:
            check_book(book)
        told = caught.exception
        self.assertEqual(list(vars(told)), ["form", "code", "place", "regs", "answers"])
        self.assertEqual((told.form, told.code), ("half", (1,)))
        asks, handed = run_code(book, ("half", ()), told.place, told.regs, told.answers)
        self.assertFalse(whole(asks, told.answers, handed))
        self.assertIs(is_let_by(book), False)

    def test_codes_first(self):
        book = book_of(HALF, NOP, ("two", ["000m"], ()))
        self.assertEqual(refusal(check_book, book), ("OneCode", "half", "two", (1,)))
        book = book_of(("many", ["0010"], CHAIN), NOP, ("two", ["000m"], ()))
        self.assertEqual(refusal(check_book, book), ("OneCode", "nop", "two", (0,)))
        self.assertIs(is_let_by(book), False)

    def test_the_first_form(self):
        other = ("other", ["0010"], [GET, OUT, READ])
        self.assertEqual(refusal(check_book, book_of(NOP, HALF, other))[1], "half")
        self.assertEqual(refusal(check_book, book_of(other, NOP, HALF))[1], "other")

    def test_too_many_passes_through(self):
        many = ("many", ["0010"], CHAIN)
        for call in (check_book, is_let_by):
            self.assertEqual(refusal(call, book_of(NOP, many)), ("TooMany", "standing"))
            self.assertEqual(refusal(call, book_of(many, HALF)), ("TooMany", "standing"))
        self.assertEqual(refusal(check_book, book_of(HALF, many))[:2], ("HalfDone", "half"))
        self.assertIs(is_let_by(book_of(HALF, many)), False)

    def test_one_comparison_fewer(self):
        lines = CHAIN[:-1] + [("must", 8, 12)]
        self.assertEqual(refusal(check_book, book_of(("many", ["0010"], lines)))[:2], ("HalfDone", "many"))

    def test_one_address_read_twice(self):
        lines = [GET, READ, READ, ("same", 1, 2), OUT, ("must", 3, 12)]
        book = book_of(("twice", ["0000"], lines))
        told = refusal(check_book, book)
        self.assertEqual(told[:2], ("HalfDone", "twice"))
        # It is half only since both reads may be answered differently.
        self.assertNotEqual(told[5][0], told[5][1])
        lines = lines[:4] + [("must", 3, 12), OUT, ("must", 3, 13)]
        self.assertIsNone(check_book(book_of(("twice", ["0000"], lines))))


class Decisions(unittest.TestCase):
    """[56]: at most 64 decisions for each read and must behind an effect."""

    def decisions(self, *forms):
        with mock.patch("selfwritten.halves.solved", side_effect=solved) as counted:
            is_let_by(Book(6, 4, forms))
        return counted.call_count

    def test_how_many(self):
        musts = [("must", 3, 12), GET, ("must", 3, 13)]
        lines = [("get", "a"), ("get", "b"), ("get", "c"), ("num", 1), ("out", 0, 0)]
        one, two = ("one", ["aabbcc"], lines + musts), ("two", ["000000", "nnnnnn"], lines[3:4] + [GET])
        self.assertTrue(0 < self.decisions(one) <= 64 * 2)
        self.assertEqual(self.decisions(two), 0)
        self.assertEqual(self.decisions(("one", ["aabbcc"], musts[1:2] + [("must", 0, 12), ("out", 0, 0)])), 0)
        apart = [(f"f{letter}", ["aabb" + bits], lines[:2] + lines[3:4] + [("out", 0, 0), ("must", 2, 12)])
                 for letter, bits in (("a", "00"), ("b", "01"), ("c", "10"))]
        self.assertTrue(0 < self.decisions(*apart) <= 64 * 3)

    def test_none_ahead_of_a_shared_beginning(self):
        self.assertEqual(self.decisions(("one", ["00000m"], [GET, OUT, READ]), ("two", ["000001"], ())), 0)


class Facts(unittest.TestCase):
    def half_forms(self, book):
        """The names of the forms of which some run is not whole, all runs tried one by one."""
        found = []
        for form in book.forms:
            used = {line[0] for line in form.lines}
            places = range(16) if used & {"here", "next"} else (0,)
            rows = [(word,) for word in range(16)] if "get" in used else [(0,)]
            runs = [(asks, answers, handed) for numbers in numbers_of(form) for place in places for regs in rows
                    for asks, answers, handed in all_runs(book, form, numbers, place, regs)]
            if not all(is_whole(*run) for run in runs):
                found.append(form.name)
        return found

    def small(self, book):
        """Whether all runs can be tried."""
        for form in book.forms:
            kinds = [line[0] for line in form.lines]
            many = kinds.count("read") + kinds.count("in") + sum(bits for _, bits in form.letters) / 4
            if many + ("get" in kinds) + bool({"here", "next"} & set(kinds)) > 3:
                return False
        return True

    def test_drawn_books(self):
        rng = random.Random(52)
        told = []
        while len(told) < 150:
            drawn = drawn_book if len(told) % 3 == 0 else drawn_apart
            book = drawn(rng, 4, 1, rng.randrange(1, 5), "00111mn", 6, rng.random() < 0.6)
            if not self.small(book):
                continue
            pairs = [(one, other) for at, one in enumerate(book.forms) for other in book.forms[at + 1:]]
            shared = [(one.name, other.name) for one, other in pairs if share(one, other)]
            half = self.half_forms(book)
            got = refusal(check_book, book)
            self.assertEqual(is_let_by(book), not shared and not half)
            if shared:
                self.assertEqual(got[:3], ("OneCode", *shared[0]))
            elif half:
                self.check_shown(book, half[0], got)
            else:
                self.assertIsNone(got)
            told.append("one" if shared else "half" if half else "good")
        self.assertGreater(min(told.count(kind) for kind in ("one", "half", "good")), 15)

    def check_shown(self, book, name, told):
        kind, form, code, place, regs, answers = told
        self.assertEqual((kind, form, (code, place, regs, answers)), ("HalfDone", name, half_run(book, name)))
        instruction, size = decoded(book, code)
        self.assertEqual((instruction[0], encoded(book, instruction), size), (name, code, len(code)))
        asks, handed = run_code(book, instruction, place, regs, answers)
        self.assertFalse(whole(asks, answers, handed))

    def test_runs_of_books_that_are_let_by(self):
        """An effect that is answered yes is the last ask, and the run then hands over None and 1 done."""
        rng = random.Random(53)
        effects = 0
        for _ in range(150):
            book = drawn_apart(rng, 4, 2, 3, lines=7)
            if not is_let_by(book):
                continue
            for form in book.forms:
                for _ in range(12):
                    numbers = rng.choice(numbers_of(form))
                    answers = [rng.choice((0, 1, 15, rng.randrange(16))) for _ in range(12)]
                    told = (form.name, numbers)
                    asks, handed = run_code(book, told, rng.randrange(16), (rng.randrange(16), 0), answers)
                    at = [k for k, ask in enumerate(asks) if ask[0] in ("write", "in", "out")]
                    if at:
                        self.assertEqual((at, handed[:2]), ([len(asks) - 1], (None, 1)))
                        effects += 1
        self.assertGreater(effects, 200)


class Errors(unittest.TestCase):
    def test_attributes(self):
        told = OneCode("one", "two", (1,))
        self.assertEqual(list(vars(told).items()), [("first", "one"), ("second", "two"), ("code", (1,))])


if __name__ == "__main__":
    unittest.main()

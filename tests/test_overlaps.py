"""Forms that share a beginning ([37])."""

import random
import unittest
from itertools import product

from model import drawn_book, is_code, matches
from selfwritten.books import Book
from selfwritten.overlaps import first_shared, shared_code


def tried(one, other):
    """The least shared code of two forms, found by trying all rows of words one by one."""
    longer, shorter = (one, other) if one.size >= other.size else (other, one)
    word = len(one.patterns[0])
    good = [[cell for cell in range(2 ** word) if matches(pattern, cell)] for pattern in longer.patterns]
    for row in product(*good):
        if is_code(shorter, row[:shorter.size]):
            return row
    return None


def two(one, other, word=4, registers=1):
    """The forms of a book with these patterns."""
    return Book(word, registers, [("one", one, ()), ("two", other, ())]).forms


class Shared(unittest.TestCase):
    def check(self, one, other, code, **more):
        forms = two(one, other, **more)
        self.assertEqual(shared_code(*forms), code)
        self.assertEqual(shared_code(*forms[::-1]), code)
        self.assertEqual(tried(*forms), code)

    def test_one_cell(self):
        self.check(["0000"], ["0000"], (0,))
        self.check(["1111"], ["1111"], (15,))
        self.check(["0000"], ["0001"], None)
        self.check(["1000"], ["0000"], None)
        self.check(["mm00"], ["01nn"], (4,))
        self.check(["mmmm"], ["nnnn"], (0,))
        self.check(["1mm0"], ["nn1n"], (10,))
        self.check(["1mm0"], ["nn11"], None)

    def test_more_cells(self):
        self.check(["00mm"], ["0n10", "nn01"], (2, 1))
        self.check(["00mm"], ["0n10", "1n11", "1mmm"], (2, 11, 8))
        self.check(["01mm", "mm10"], ["0n10", "1n1n", "11mm"], (6, 10, 12))
        self.check(["01mm", "mm10"], ["0n10", "1n01", "11mm"], None)
        self.check(["01mm", "mm10"], ["0n10", "1n1n"], (6, 10))
        self.check(["1mmm", "0000", "0000"], ["0nnn"], None)
        self.check(["0000", "0000", "0mmm"], ["0000", "0000", "nn11"], (0, 0, 3))

    def test_a_letter_has_other_bits_at_each_place(self):
        self.check(["00mm"], ["0001", "mm10"], (1, 2))
        self.check(["m0m1"], ["0001"], (1,))
        self.check(["a00a"], ["b001"], (1,), registers=4)

    def test_width_8(self):
        self.check(["1010mmmm"], ["nnnn0101"], (165,), word=8)
        self.check(["1010mmmm"], ["10110101"], None, word=8)
        self.check(["1010mmmm"], ["nnnn0101", "1111111n"], (165, 254), word=8)

    def test_a_tuple(self):
        self.assertIsInstance(shared_code(*two(["0000"], ["mmmm", "0000"])), tuple)

    def test_against_all_rows_of_words(self):
        rng = random.Random(37)
        told = []
        for _ in range(300):
            book = drawn_book(rng, 4, rng.choice((1, 2, 4)), 2, "01abmmnn", lines=0)
            wanted = tried(*book.forms)
            self.assertEqual(shared_code(*book.forms), wanted, book.text())
            told.append(wanted is None)
        self.assertGreater(told.count(True), 50)
        self.assertGreater(told.count(False), 50)


class FirstShared(unittest.TestCase):
    def test_none(self):
        self.assertIsNone(first_shared(Book(4, 1, [("one", ["mmmm"], ())])))
        self.assertIsNone(first_shared(Book(4, 1, [("one", ["0mmm"], ()), ("two", ["1mmm"], ())])))

    def test_order_of_pairs(self):
        forms = [("one", ["0000"], ()), ("two", ["0001"], ()), ("six", ["000m"], ()), ("ten", ["0001"], ())]
        self.assertEqual(first_shared(Book(4, 1, forms)), ("one", "six", (0,)))
        self.assertEqual(first_shared(Book(4, 1, forms[1:])), ("two", "six", (1,)))
        self.assertEqual(first_shared(Book(4, 1, forms[::-1])), ("ten", "six", (1,)))
        self.assertEqual(first_shared(Book(4, 1, [forms[1], forms[0], forms[3], forms[2]])), ("two", "ten", (1,)))

    def test_names_in_the_order_of_the_book(self):
        long, short = ("long", ["0001", "1mmm"], ()), ("short", ["000m"], ())
        self.assertEqual(first_shared(Book(4, 1, [long, short])), ("long", "short", (1, 8)))
        self.assertEqual(first_shared(Book(4, 1, [short, long])), ("short", "long", (1, 8)))

    def test_32_forms(self):
        forms = [("f" + "abcdefghijklmnopqrstuvwxyz"[k % 26] + "x" * (k // 26), [format(k, "08b")], ())
                 for k in range(32)]
        self.assertIsNone(first_shared(Book(8, 1, forms)))
        forms[31] = ("last", ["000m1110"], ())
        self.assertEqual(first_shared(Book(8, 1, forms)), ("fo", "last", (14,)))

    def test_against_all_rows_of_words(self):
        rng = random.Random(3)
        told = []
        for _ in range(120):
            book = drawn_book(rng, 4, rng.choice((1, 2, 4)), rng.randrange(1, 6), "0011abmn", lines=0)
            pairs = [(one, other) for at, one in enumerate(book.forms) for other in book.forms[at + 1:]]
            found = [(one.name, other.name, tried(one, other)) for one, other in pairs if tried(one, other)]
            self.assertEqual(first_shared(book), found[0] if found else None, book.text())
            told.append(len(found))
        self.assertGreater(told.count(0), 10)
        self.assertGreater(len([many for many in told if many > 1]), 10)


if __name__ == "__main__":
    unittest.main()

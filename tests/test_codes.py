"""Codes ([32], [38] to [40])."""

import random
import unittest
from itertools import product

from helpers import WRONG_NUMBERS, WRONG_ROWS, refusal
from model import code_of, codes_of, drawn_apart, drawn_book, is_code, matches, numbers_of
from selfwritten.books import Book
from selfwritten.codes import begins, code_size, decoded, encoded, is_full

SET = "word 4\nregisters 2\nform add 00ab\nform set 01a0 nnnn\nnum n\nput a 0\n"


def looked_at(book, cells):
    """What [38] says of the cells, word by word: the form or None, and the cells looked at."""
    many = 0
    while True:
        many += 1
        ahead = cells[:many]
        fitting = [form for form in book.forms if is_code(form, ahead)]
        if fitting:
            return fitting[0], many
        longer = [form for form in book.forms if form.size > many]
        if not [form for form in longer if all(matches(*pair) for pair in zip(form.patterns, ahead))]:
            return None, many


class Decoded(unittest.TestCase):
    def test_one_to_three_cells(self):
        forms = [("one", ["00ab"], ()), ("two", ["01mn", "nnm1"], ()), ("six", ["1b0a", "1111", "m00n"], ())]
        book = Book(4, 2, forms)
        self.assertEqual(decoded(book, (2,)), (("one", (1, 0)), 1))
        self.assertEqual(decoded(book, [3, 99]), (("one", (1, 1)), 1))
        self.assertEqual(decoded(book, (6, 11)), (("two", (3, 2)), 2))
        self.assertEqual(decoded(book, (6, 10)), (None, 2))
        self.assertEqual(decoded(book, (9, 15, 8)), (("six", (1, 0, 1, 0)), 3))
        self.assertEqual(decoded(book, (9, 15, 9, 5)), (("six", (1, 0, 1, 1)), 3))
        self.assertEqual(decoded(book, (9, 15, 10)), (None, 3))
        self.assertEqual(decoded(book, (9, 14)), (None, 2))
        self.assertEqual(decoded(book, (10,)), (None, 1))

    def test_kinds(self):
        told = decoded(Book.read(SET), [6, 11])
        self.assertEqual([type(told), type(told[0]), type(told[0][1])], [tuple] * 3)
        self.assertEqual(decoded(Book(4, 1, [("nop", ["0000"], ())]), [0]), (("nop", ()), 1))

    def test_looks_on_only_if_a_form_of_more_cells_fits(self):
        # The first cell of `six` fits, its second one does not; `two` has too few cells for a third look.
        forms = [("two", ["0mmm", "0000"], ()), ("six", ["00mm", "1111", "0000"], ())]
        book = Book(4, 1, forms)
        self.assertEqual(decoded(book, (1, 0)), (("two", (1,)), 2))
        self.assertEqual(decoded(book, (1, 3)), (None, 2))
        self.assertEqual(decoded(book, (5, 15)), (None, 2))
        self.assertEqual(decoded(book, (1, 15, 1)), (None, 3))
        self.assertEqual(decoded(book, (8,)), (None, 1))

    def test_the_first_form_of_one_size_and_the_smallest_size(self):
        forms = [("long", ["0001", "mmmm"], ()), ("one", ["00mm"], ()), ("two", ["0001"], ())]
        book = Book(4, 1, forms)
        self.assertEqual(decoded(book, (1, 5)), (("one", (1,)), 1))
        self.assertEqual(decoded(Book(4, 1, forms[::-1]), (1, 5)), (("two", ()), 1))
        self.assertEqual(decoded(Book(4, 1, forms[::2]), (1, 5)), (("two", ()), 1))

    def test_cells_that_are_not_words(self):
        book = Book.read(SET)
        for cell in (*WRONG_NUMBERS, -1, 16):
            self.assertEqual(refusal(decoded, book, (cell, 3)), ("BadWords", 0), cell)
            self.assertEqual(refusal(decoded, book, (6, cell)), ("BadWords", 1), cell)
            # Cells that are not looked at may be anything.
            self.assertEqual(decoded(book, (1, cell)), (("add", (0, 1)), 1))
            self.assertEqual(decoded(book, (7, cell)), (None, 1))
            self.assertEqual(decoded(book, (6, 1, cell)), (("set", (1, 1)), 2))

    def test_cells_that_are_not_there(self):
        book = Book(4, 1, [("six", ["0000", "mmmm", "0000"], ()), ("two", ["0001", "0000"], ())])
        self.assertEqual(refusal(decoded, book, ()), ("BadWords", 0))
        self.assertEqual(refusal(decoded, book, []), ("BadWords", 0))
        self.assertEqual(refusal(decoded, book, (0,)), ("BadWords", 1))
        self.assertEqual(refusal(decoded, book, (0, 9)), ("BadWords", 2))
        self.assertEqual(decoded(book, (2,)), (None, 1))

    def test_no_row(self):
        for cells in WRONG_ROWS:
            self.assertEqual(refusal(decoded, Book.read(SET), cells), ("BadWords", -1), cells)

    def test_changes_nothing(self):
        cells = [6, 11, 0]
        decoded(Book.read(SET), cells)
        self.assertEqual(cells, [6, 11, 0])

    def test_any_books_against_the_words_of_the_document(self):
        rng = random.Random(38)
        for _ in range(60):
            book = drawn_book(rng, 4, rng.choice((1, 2, 4)), rng.randrange(1, 8), lines=0)
            for _ in range(60):
                cells = tuple(rng.randrange(16) for _ in range(3))
                form, many = looked_at(book, cells)
                wanted = None if form is None else (form.name, codes_of(form)[cells[:many]])
                self.assertEqual(decoded(book, cells), (wanted, many))


class ThereAndBack(unittest.TestCase):
    """[39], for books in which no two forms share a beginning."""

    def check_code(self, book, form, numbers, rest):
        code = encoded(book, (form.name, numbers))
        self.assertEqual(code, code_of(form, numbers))
        self.assertEqual(code_size(book, (form.name, numbers)), len(code))
        self.assertEqual(decoded(book, code + rest), ((form.name, numbers), len(code)))
        return code

    def test_every_instruction_at_width_4(self):
        rng = random.Random(39)
        sizes = set()
        for _ in range(40):
            book = drawn_apart(rng, 4, rng.choice((1, 2, 4)), 8, lines=0)
            codes = []
            for form in book.forms:
                for numbers in numbers_of(form)[:64]:
                    rest = tuple(rng.randrange(16) for _ in range(3))
                    codes.append(self.check_code(book, form, numbers, rest))
                sizes.add(form.size)
            self.assertEqual(len(codes), len(set(codes)))
        self.assertEqual(sizes, {1, 2, 3})

    def test_drawn_instructions_at_width_8(self):
        rng = random.Random(8)
        for many in (1, 32):
            book = drawn_apart(rng, 8, 4, many, "000111abcmn", lines=0)
            for form in book.forms:
                for _ in range(20):
                    numbers = tuple(rng.randrange(2 ** bits) for _, bits in form.letters)
                    self.check_code(book, form, numbers, (rng.randrange(256), 0, 255))

    def test_every_row_of_three_words(self):
        rng = random.Random(40)
        for _ in range(6):
            book = drawn_apart(rng, 4, 2, 8, lines=0)
            alike = {}
            for cells in product(range(16), repeat=3):
                instruction, many = decoded(book, cells)
                codes = [cells[:form.size] for form in book.forms if is_code(form, cells[:form.size])]
                self.assertLessEqual(len(codes), 1)
                self.assertIn(many, (1, 2, 3))
                self.assertEqual([] if instruction is None else [encoded(book, instruction)], codes)
                if codes:
                    self.assertEqual(len(codes[0]), many)
                told = alike.setdefault(cells[:many], (instruction, many))
                self.assertEqual(told, (instruction, many))


class Encoded(unittest.TestCase):
    def setUp(self):
        self.book = Book(4, 4, [("add", ["0aab"], ()), ("set", ["1000", "mmmn"], ()), ("nop", ["1111"], ())])

    def test_codes(self):
        self.assertEqual(encoded(self.book, ("add", (3, 1))), (7,))
        self.assertEqual(encoded(self.book, ["add", [2, 0]]), (4,))
        self.assertEqual(encoded(self.book, ("set", (5, 1))), (8, 11))
        self.assertEqual(encoded(self.book, ("nop", ())), (15,))
        self.assertEqual([code_size(self.book, told) for told in (("add", (0, 0)), ["set", [7, 1]])], [1, 2])
        self.assertEqual(code_size(Book(4, 1, [("six", ["0000"] * 3, ())]), ("six", ())), 3)

    def refused(self, instruction):
        for call in (encoded, code_size):
            self.assertEqual(refusal(call, self.book, instruction), ("BadSource", 0), instruction)

    def test_no_instruction(self):
        for told in (*WRONG_ROWS, (), ("nop",), ("nop", (), ()), "nop", ["nop"]):
            self.refused(told)
        for numbers in (None, 0, "", {}, range(0)):
            self.refused(("nop", numbers))

    def test_names(self):
        for name in ("", "sub", "NOP", None, 0, True, ("nop",), ["nop"], {}):
            self.refused((name, ()))

    def test_how_many_numbers(self):
        for numbers in ((), (1,), (1, 1, 1), [1]):
            self.refused(("add", numbers))
        self.refused(("nop", (0,)))

    def test_numbers(self):
        for number in (-1, 4, "a", *WRONG_NUMBERS):
            self.refused(("add", (number, 0)))
        for number in (-1, 2, *WRONG_NUMBERS):
            self.refused(("add", (0, number)))
            self.refused(("set", [7, number]))
        self.refused(("set", (8, 0)))

    def test_changes_nothing(self):
        told = ["add", [2, 0]]
        encoded(self.book, told)
        self.assertEqual(told, ["add", [2, 0]])


class Begins(unittest.TestCase):
    def test_sums(self):
        book = Book(4, 1, [("one", ["0mmm"], ()), ("two", ["10mm", "0000"], ()), ("six", ["1111"] * 3, ())])
        self.assertEqual(begins(book), 2 ** 11 + 2 ** 6 + 1)
        self.assertIs(is_full(book), False)

    def test_full(self):
        self.assertIs(is_full(Book(4, 1, [("all", ["mmmm"], ())])), True)
        forms = [("one", ["0mmm"], ()), ("two", ["1mmm", "0nnn"], ()), ("six", ["1mmm", "1nnn"], ())]
        self.assertIs(is_full(Book(4, 1, forms)), True)
        self.assertIs(is_full(Book(4, 1, forms[:2])), False)
        self.assertEqual(begins(Book(4, 1, forms)), 2 ** 12)

    def test_width_8(self):
        book = Book(8, 1, [("one", ["0mmmmmmm"], ()), ("two", ["10000000", "mmmmmmmm"], ())])
        self.assertEqual(begins(book), 2 ** 23 + 2 ** 16)
        self.assertIs(is_full(Book(8, 1, [("all", ["mmmmmmmm"], ())])), True)

    def test_against_a_count_of_all_rows(self):
        rng = random.Random(41)
        full = 0
        for number in range(12):
            signs = "0011abcmn" if number % 2 else "01mmmmnnnn"
            book = drawn_apart(rng, 4, rng.choice((1, 2, 4)), 8, signs, lines=0)
            rows = list(product(range(16), repeat=3))
            count = sum(decoded(book, cells)[0] is not None for cells in rows)
            self.assertEqual(begins(book), count)
            self.assertEqual(is_full(book), count == len(rows))
            full += is_full(book)


if __name__ == "__main__":
    unittest.main()

"""Programs: sources and lists ([41] to [43])."""

import random
import unittest

from helpers import WRONG_NUMBERS, WRONG_ROWS, refusal
from model import drawn_apart, drawn_book, numbers_of
from selfwritten.assembly import assembled, listed
from selfwritten.books import Book
from selfwritten.codes import decoded, encoded

ADD = ("add", ["00ab"], ())
GO = ("go", ["0111", "nnnn"], [("num", "n"), ("goto", 0)])
SIX = ("six", ["1000", "1mm1", "00nn"], ())
BOOK = Book(4, 2, [ADD, GO, SIX])


def told(rows, place=0, book=BOOK):
    return refusal(assembled, book, rows, place=place)


class Assembled(unittest.TestCase):
    def test_instructions_and_words(self):
        rows = [("add", (1, 0)), ["word", 9], ["six", [2, 3]], ("word", 0), ("go", (14,)), ("word", 15)]
        self.assertEqual(assembled(BOOK, rows), (2, 9, 8, 13, 3, 0, 7, 14, 15))
        self.assertEqual(assembled(BOOK, tuple(rows)), assembled(BOOK, rows))
        self.assertIsInstance(assembled(BOOK, rows), tuple)

    def test_an_empty_source(self):
        for rows in ((), [], [("label", "a")]):
            self.assertEqual(assembled(BOOK, rows), ())
            self.assertEqual(assembled(BOOK, rows, place=15), ())

    def test_labels_ahead_and_behind(self):
        rows = [("label", "top"), ("go", ("end",)), ("label", "middle"), ("word", 3), ("go", ("top",)),
                ("go", ("middle",)), ("label", "end")]
        self.assertEqual(assembled(BOOK, rows), (7, 7, 3, 7, 0, 7, 2))
        self.assertEqual(assembled(BOOK, rows, place=5), (7, 12, 3, 7, 5, 7, 7))

    def test_labels_one_after_another(self):
        rows = [("label", "a"), ("label", "b"), ("go", ("a",)), ("go", ("b",)), ("label", "c"), ("label", "d"),
                ("go", ("c",)), ("go", ("d",))]
        self.assertEqual(assembled(BOOK, rows, place=1), (7, 1, 7, 1, 7, 5, 7, 5))

    def test_a_label_for_each_letter(self):
        rows = [("label", "zero"), ("word", 1), ("label", "one"), ("word", 2), ("label", "two"),
                ("add", ("one", "zero")), ("six", ("two", "one"))]
        self.assertEqual(assembled(BOOK, rows), (1, 2, 2, 8, 13, 1))

    def test_place_0_follows_the_last_one(self):
        rows = [("word", 1), ("label", "a"), ("word", 2), ("go", ("a",)), ("go", ("b",)), ("label", "b")]
        self.assertEqual(assembled(BOOK, rows, place=15), (1, 2, 7, 0, 7, 5))
        self.assertEqual(assembled(BOOK, rows, place=14), (1, 2, 7, 15, 7, 4))

    def test_sources_that_end_just_behind_the_last_address(self):
        rows = [("go", ("end",))] + [("word", 3)] * 14 + [("label", "end")]
        cells = (7, 0) + (3,) * 14
        self.assertEqual(assembled(BOOK, rows), cells)
        self.assertEqual(assembled(BOOK, rows, place=9), (7, 9) + cells[2:])
        rows = [("go", ("end",)), ("word", 3), ("label", "end")]
        self.assertEqual(assembled(BOOK, rows, place=13), (7, 0, 3))
        self.assertEqual(assembled(BOOK, rows, place=14), (7, 1, 3))

    def test_one_cell_beyond_all(self):
        rows = [("go", ("end",))] + [("word", 3)] * 15 + [("label", "end")]
        self.assertEqual(told(rows), ("TooMany", "cells"))
        self.assertEqual(told([("word", 3)] * 15 + [("go", ("a",)), ("label", "a")]), ("TooMany", "cells"))
        self.assertEqual(told([("word", 3)] * 17, place=15), ("TooMany", "cells"))
        self.assertIsNone(told([("word", 3)] * 16, place=15))
        wide = Book(8, 1, [("nop", ["00000000"], ())])
        self.assertEqual(assembled(wide, [("nop", ())] * 256, place=255), (0,) * 256)
        self.assertEqual(told([("nop", ())] * 257, book=wide), ("TooMany", "cells"))

    def test_forms_called_label_and_word(self):
        book = Book(4, 2, [("label", ["00aa"], ()), ("word", ["01mm"], ())][1:] + [("label", ["000b"], ())])
        rows = [("label", "x"), ("label", (1,)), ("word", ("x",)), ("word", [2]), ("word", 2)]
        self.assertEqual(assembled(book, rows), (1, 4, 6, 2))
        self.assertEqual(told([("label", (2,))], book=book), ("BadSource", 0))
        self.assertEqual(told([("word", ())], book=book), ("BadSource", 0))
        self.assertEqual(told([("label", ("x",))]), ("BadSource", 0))

    def test_changes_nothing(self):
        rows = [["go", ["top"]], ["label", "top"]]
        assembled(BOOK, rows)
        self.assertEqual(rows, [["go", ["top"]], ["label", "top"]])


class Refused(unittest.TestCase):
    def wrong(self, row, behind=()):
        for ahead in ([], [("word", 1), ("label", "top")]):
            self.assertEqual(told([*ahead, row, *behind]), ("BadSource", len(ahead)), row)

    def test_place_first(self):
        for place in (-1, 16, *WRONG_NUMBERS):
            self.assertEqual(told([None], place=place), ("BadNumber", "place"))
        for place in (0, 15):
            self.assertEqual(told([None], place=place), ("BadSource", 0))
            self.assertIsNone(told([("word", 1)], place=place))

    def test_rows_that_are_none(self):
        for row in (None, 0, "go", (), [], ("go",), ("go", (1,), 0), ("label",), ("word", 1, 1), {"word": 1}):
            self.wrong(row)
        for row in (("go", 1), ("go", None), ("go", "top"), ("cell", 1), ("Word", 1), ("", "top"), (None, 1),
                    (1, 1), (b"word", 1), (["word"], 1), ("nop", {})):
            self.wrong(row)

    def test_names_of_forms(self):
        for name in ("sub", "", None, 0, True, ["add"], {}):
            self.wrong((name, (1, 0)))

    def test_how_many_numbers(self):
        for row in (("add", ()), ("add", (1,)), ("add", (1, 0, 0)), ("go", ()), ("go", ["top", "top"])):
            self.wrong(row)

    def test_numbers(self):
        for number in (-1, 2, *[wrong for wrong in WRONG_NUMBERS if not isinstance(wrong, str)]):
            self.wrong(("add", (number, 0)))
            self.wrong(("add", [0, number]))
        self.wrong(("go", (16,)))

    def test_labels(self):
        for name in ("", "abcdefghi", "Top", "a1", "a b", "\u00e4", None, 0, True, b"top", {}):
            self.wrong(("label", name))
        self.assertIsNone(told([("label", "abcdefgh"), ("label", "a")]))
        self.assertEqual(told([("label", "a"), ("word", 1), ("label", "a")]), ("BadSource", 2))

    def test_words(self):
        for word in (-1, 16, "a", *[wrong for wrong in WRONG_NUMBERS if not isinstance(wrong, (list, tuple))]):
            self.wrong(("word", word))

    def test_names_that_no_label_has(self):
        for name in ("end", "", "TOP", "abcdefghij", "label"):
            self.wrong(("go", (name,)))
        self.assertIsNone(told([("go", ("end",)), ("label", "end")]))

    def test_places_beyond_the_bits(self):
        rows = [("word", 1), ("word", 1), ("label", "two"), ("add", (1, "two"))]
        self.assertEqual(told(rows), ("BadSource", 3))
        self.assertEqual(told(rows, place=14), None)
        self.assertEqual(told(rows, place=15), None)
        self.assertEqual(told(rows, place=13), ("BadSource", 3))
        rows = [("label", "a"), ("six", ("a", "a"))]
        self.assertEqual([told(rows, place=place) for place in (3, 4)], [None, ("BadSource", 1)])

    def test_the_first_wrong_row_of_each_round(self):
        first = [("go", ("end",)), ("word", 16)]
        self.assertEqual(told(first), ("BadSource", 1))
        self.assertEqual(told([("word", 99), ("word", 16)]), ("BadSource", 0))
        self.assertEqual(told([("go", ("a",)), ("add", ("b", "c")), ("word", 1)]), ("BadSource", 0))
        self.assertEqual(told([("go", ("a",)), ("add", ("b", "c")), ("label", "a")]), ("BadSource", 1))

    def test_rounds_ahead_of_too_many(self):
        many = [("word", 1)] * 17
        self.assertEqual(told(many + [("word", 16)]), ("BadSource", 17))
        self.assertEqual(told(many + [("go", ("a",))]), ("BadSource", 17))
        self.assertEqual(told(many), ("TooMany", "cells"))

    def test_a_book_without_the_form(self):
        self.assertEqual(told([("word", 0), ("nop", ())], book=Book(4, 1, [ADD[:1] + (["0000"], ())])),
                         ("BadSource", 1))


class Listed(unittest.TestCase):
    def test_entries(self):
        cells = (2, 8, 13, 3, 9, 7, 14, 15)
        wanted = [(0, ("add", (1, 0)), (2,)), (1, ("six", (2, 3)), (8, 13, 3)), (4, None, (9,)),
                  (5, ("go", (14,)), (7, 14)), (7, None, (15,))]
        self.assertEqual(listed(BOOK, cells), wanted)
        self.assertEqual(listed(BOOK, list(cells)), wanted)
        places = [place for place, _, _ in listed(BOOK, cells, place=12)]
        self.assertEqual(places, [12, 13, 0, 1, 3])

    def test_kinds(self):
        rows = listed(BOOK, (2, 9))
        self.assertEqual([type(rows), type(rows[0]), type(rows[0][1]), type(rows[1][2])], [list] + [tuple] * 3)
        rows.append(None)
        self.assertEqual(len(listed(BOOK, (2, 9))), 2)
        self.assertEqual([type(row[2]) for row in listed(BOOK, [2, 9])], [tuple, tuple])

    def test_no_code_behind_the_first_cell(self):
        # 8 begins a code of three cells, 8 0 does not; so 0 stands for itself.
        self.assertEqual(listed(BOOK, (8, 0)), [(0, None, (8,)), (1, ("add", (0, 0)), (0,))])
        self.assertEqual(listed(BOOK, (8, 9, 8)), [(0, None, (8,)), (1, None, (9,)), (2, None, (8,))])

    def test_cells_that_end_too_soon(self):
        self.assertEqual(listed(BOOK, (7,)), [(0, None, (7,))])
        self.assertEqual(listed(BOOK, (8, 9)), [(0, None, (8,)), (1, None, (9,))])
        self.assertEqual(listed(BOOK, (8, 9, 1, 8, 9), place=14)[1:], [(1, None, (8,)), (2, None, (9,))])

    def test_0_and_all_and_more_cells(self):
        self.assertEqual(listed(BOOK, ()), [])
        self.assertEqual([row[0] for row in listed(BOOK, (0,) * 16, place=3)], [*range(3, 16), 0, 1, 2])
        self.assertEqual(len(listed(BOOK, [9] * 40)), 40)
        wide = Book(8, 1, [("nop", ["00000000"], ())])
        self.assertEqual(listed(wide, (0,) * 256)[255], (255, ("nop", ()), (0,)))

    def test_refused(self):
        for place in (-1, 16, *WRONG_NUMBERS):
            self.assertEqual(refusal(listed, BOOK, None, place=place), ("BadNumber", "place"))
        for cells in WRONG_ROWS:
            self.assertEqual(refusal(listed, BOOK, cells), ("BadWords", -1))
        for cell in (-1, 16, *WRONG_NUMBERS):
            self.assertEqual(refusal(listed, BOOK, (1, cell, cell)), ("BadWords", 1))
            self.assertEqual(refusal(listed, BOOK, (7, 7, 9, cell)), ("BadWords", 3))


def drawn_source(rng, book, many):
    """So many rows of instructions, each of whose numbers may be a label, and where they lie."""
    rows, names, at = [], {}, 0
    size = 2 ** book.word
    for number in range(many):
        if rng.random() < 0.3:
            name = "l" + "abcdefghijklmnopqrstuvwxyz"[number]
            rows.append(("label", name))
            names[name] = at
        form = rng.choice(book.forms)
        at += form.size
        if at > size:
            break
        rows.append((form.name, [rng.randrange(2 ** bits) for _, bits in form.letters]))
    for row in rows:
        if row[0] != "label":
            form = book.form_named(row[0])
            for k, (_, bits) in enumerate(form.letters):
                fitting = [name for name in names if names[name] < 2 ** bits]
                if fitting and rng.random() < 0.5:
                    row[1][k] = rng.choice(fitting)
    return rows, names


class ThereAndBack(unittest.TestCase):
    def test_sources_of_instructions(self):
        rng = random.Random(43)
        labels = 0
        for number in range(120):
            book = drawn_apart(rng, (4, 8)[number % 2], rng.choice((1, 2, 4)), 8, lines=0)
            rows, names = drawn_source(rng, book, 20)
            wanted, at = [], 0
            for row in rows:
                if row[0] != "label":
                    labels += len([entry for entry in row[1] if isinstance(entry, str)])
                    told = (row[0], tuple(names.get(entry, entry) for entry in row[1]))
                    wanted.append((at % 2 ** book.word, told, encoded(book, told)))
                    at += book.form_named(row[0]).size
            cells = assembled(book, rows)
            self.assertEqual(cells, tuple(cell for _, _, code in wanted for cell in code))
            self.assertEqual(listed(book, cells), wanted)
        self.assertGreater(labels, 50)

    def test_places(self):
        rng = random.Random(44)
        for _ in range(40):
            book = drawn_apart(rng, 4, 2, 6, lines=0)
            form = rng.choice(book.forms)
            row = (form.name, rng.choice(numbers_of(form)))
            place = rng.randrange(16)
            many = 16 // form.size
            wanted = [((place + k * form.size) % 16, row, encoded(book, row)) for k in range(many)]
            self.assertEqual(listed(book, assembled(book, [row] * many, place=place), place=place), wanted)

    def test_any_cells_in_any_book(self):
        rng = random.Random(45)
        words = 0
        for number in range(150):
            book = drawn_book(rng, (4, 8)[number % 2], rng.choice((1, 2, 4)), rng.randrange(1, 7), lines=0)
            size = 2 ** book.word
            cells = tuple(rng.randrange(size) for _ in range(rng.choice((0, 1, 7, size))))
            rows = listed(book, cells, place=5)
            back = [("word", code[0]) if instruction is None else instruction for _, instruction, code in rows]
            self.assertEqual(assembled(book, back, place=rng.randrange(size)), cells)
            at = 0
            for place, instruction, code in rows:
                self.assertEqual((place, code), ((5 + at) % size, cells[at:at + len(code)]))
                ahead = cells[at:]
                if instruction is None:
                    told = refusal(decoded, book, ahead)
                    self.assertTrue(told == ("BadWords", len(ahead)) or decoded(book, ahead)[0] is None)
                    self.assertEqual(len(code), 1)
                    words += 1
                else:
                    self.assertEqual(decoded(book, ahead), (instruction, len(code)))
                at += len(code)
        self.assertGreater(words, 100)


if __name__ == "__main__":
    unittest.main()

"""Texts of guest books ([8], [34], [35])."""

import random
import unittest

from helpers import refusal
from selfwritten.books import Book

TEXT = """word 4
registers 2
form add 00ab
get a
get b
add 0 1
put a 2
form set 01a0 nnnn
num n
put a 0
"""

EVERY = """word 8
registers 4
form all 0011aabb 0000000c mmmmmnnn
get a
get 3
num m
num 255
here
next
add 0 1
read 6
in 5
must 7 12
put c 8
goto 8
form some 11000000
here
sub 0 0
and 0 1
or 2 1
xor 3 0
less 4 1
same 0 0
out 9 6
form more 11000001
get 0
write 0 0
form less 11000010
"""


def random_book(rng):
    """A book with forms of random lines."""
    word = rng.randrange(4, 9)
    registers = rng.randrange(1, 5)
    forms = []
    for name in rng.sample(("a", "form", "word", "num", "abcdefgh", "zz"), rng.randrange(1, 5)):
        patterns = ["".join(rng.choice("01mn"[:rng.choice((2, 4))]) for _ in range(word))
                    for _ in range(rng.randrange(1, 4))]
        lines = [("num", rng.randrange(2 ** word))]
        for _ in range(rng.randrange(11)):
            i, j = 0, rng.choice([at for at, line in enumerate(lines) if line[0] not in ("put", "must")])
            line = rng.choice((("get", rng.randrange(registers)), ("here",), ("next",), ("add", i, j),
                               ("read", j), ("must", j, 13), ("put", rng.randrange(registers), j)))
            lines.append(line)
        if rng.random() < 0.5:
            lines = lines[:10] + [rng.choice((("in", 3), ("out", 7, 0), ("write", 0, 0))), ("goto", 0)]
        forms.append((name, patterns, lines))
    if refusal(Book, word, registers, forms) is not None:
        return random_book(rng)
    return Book(word, registers, forms)


class ThereAndBack(unittest.TestCase):
    def test_the_example(self):
        book = Book.read(TEXT)
        made = Book(4, 2, [
            ("add", ("00ab",), [("get", "a"), ("get", "b"), ("add", 0, 1), ("put", "a", 2)]),
            ("set", ("01a0", "nnnn"), [("num", "n"), ("put", "a", 0)]),
        ])
        self.assertEqual((book.text(), made.text()), (TEXT, TEXT))
        self.assertTrue(book == made)

    def test_every_kind_of_line(self):
        book = Book.read(EVERY)
        self.assertEqual(book.text(), EVERY)
        self.assertEqual([len(form.lines) for form in book.forms], [12, 8, 2, 0])
        self.assertEqual(book.forms[0].lines[:4], (("get", "a"), ("get", 3), ("num", "m"), ("num", 255)))

    def test_random_books(self):
        rng = random.Random(91)
        for _ in range(150):
            book = random_book(rng)
            again = Book.read(book.text())
            self.assertTrue(again == book)
            self.assertEqual(again.text(), book.text())
            told = [(form.name, form.patterns, form.lines) for form in again.forms]
            self.assertEqual(told, [(form.name, form.patterns, form.lines) for form in book.forms])

    def test_texts_are_ascii_lines(self):
        text = Book.read(EVERY).text()
        self.assertTrue(text.isascii() and text.endswith("\n"))
        for line in text[:-1].split("\n"):
            self.assertTrue(line and all(line.split(" ")))

    def test_spoiled_texts_are_refused_or_texts_of_what_is_read(self):
        rng = random.Random(92)
        signs = "0129abcmnx \n\t" + "form"
        for text in (TEXT, EVERY):
            for _ in range(1500):
                at = rng.randrange(len(text))
                spoiled = text[:at] + rng.choice(("", rng.choice(signs))) + text[at + rng.randrange(2):]
                told = refusal(Book.read, spoiled)
                if told is None:
                    self.assertEqual(Book.read(spoiled).text(), spoiled)
                else:
                    self.assertIn(told[0], ("BadLine", "BadBook", "BadNumber"))


class Refused(unittest.TestCase):
    def told(self, text, *wanted):
        self.assertEqual(refusal(Book.read, text), wanted, text)

    def test_missing_lines(self):
        self.told("", "BadLine", 0)
        self.told("word 4\n", "BadLine", 1)
        self.told("word 4\nregisters 2\n", "BadBook", "", -1)

    def test_unfinished_last_line(self):
        self.told("word 4", "BadLine", 0)
        self.told("word 4\nregisters 2", "BadLine", 1)
        self.told(TEXT[:-1], "BadLine", 9)
        self.told(TEXT + " ", "BadLine", 10)
        self.told(TEXT + "form no 1111", "BadLine", 10)
        # An earlier wrong line is told first.
        self.told("word\nregisters 2", "BadLine", 0)

    def test_first_two_lines(self):
        rest = "form nop 0000\n"
        for head in ("word", "word ", "word 4 ", " word 4", "word  4", "word 04", "word +4", "word -4", "word four",
                     "word 4 4", "registers 4", "Word 4", "word\t4", "word 4\r", "word " + "9" * 41, ""):
            self.told(head + "\nregisters 2\n" + rest, "BadLine", 0)
        for head in ("registers", "registers  2", "registers 2 ", "registers a", "registers 00", "word 4",
                     "register 2", "form nop 0000", ""):
            self.told("word 4\n" + head + "\n" + rest, "BadLine", 1)

    def test_numbers_are_left_to_the_book(self):
        rest = "form nop 0000\n"
        self.told("word 9\nregisters 2\n" + rest, "BadNumber", "word")
        self.told("word 0\nregisters 0\n" + rest, "BadNumber", "word")
        self.told("word 4\nregisters 5\n" + rest, "BadNumber", "registers")
        self.told("word " + "9" * 40 + "\nregisters 2\n", "BadNumber", "word")
        self.told("word 9\nregisters 2\nget x\n", "BadLine", 2)

    def test_form_lines(self):
        head = "word 4\nregisters 2\nform nop 0000\n"
        for line in ("form", "form one", "form one ", "form  0000", "form one 0000 ", "form one  0000", "form ",
                     "form one 0001 0001 0001 0001", " form one 0001", "Form one 0001"):
            self.told(head + line + "\n", "BadLine", 3)
        self.told(head + "form one 0001 0001 0001\nform\n", "BadLine", 4)

    def test_what_is_left_to_the_book(self):
        head = "word 4\nregisters 2\nform nop 0000\n"
        self.told(head + "form ONE 0001\n", "BadBook", "ONE", -1)
        self.told(head + "form nop 0001\n", "BadBook", "nop", -1)
        self.told(head + "form one 000\n", "BadBook", "one", -1)
        self.told(head + "form one 000x\n", "BadBook", "one", -1)
        self.told(head + "form \u00e4 0001\n", "BadBook", "\u00e4", -1)
        self.told(head + "form one 0001\nget 2\n", "BadBook", "one", 0)
        self.told(head + "form one 000a\nget a\nget b\n", "BadBook", "one", 1)
        self.told(head + "form one 000a\nnum m\n", "BadBook", "one", 0)
        self.told(head + "here\nput 0 1\n", "BadBook", "nop", 1)
        self.told(head + "here\n" * 13, "BadBook", "nop", -1)
        self.told(head + "in 6\n", "BadBook", "nop", 0)
        self.told(head + "here\nmust 0 11\n", "BadBook", "nop", 1)
        self.told(head + "num " + "9" * 40 + "\n", "BadBook", "nop", 0)
        # Lines come first, then the book.
        self.told(head + "get 2\nget x\n", "BadLine", 4)

    def test_line_ahead_of_forms(self):
        self.told("word 4\nregisters 2\nhere\nform nop 0000\n", "BadLine", 2)
        self.told("word 4\nregisters 2\nnone\nform nop 0000\n", "BadLine", 2)

    def test_empty_lines(self):
        for at in range(11):
            lines = TEXT.split("\n")[:-1]
            lines.insert(at, "")
            self.told("\n".join(lines) + "\n", "BadLine", at)

    def test_kinds_of_tokens(self):
        head = "word 8\nregisters 4\nform all aabbccmm nnnnnnnn\nhere\n"
        # For each kind of line its entries; every one is a number in what is good.
        kinds = {"get": "r", "num": "v", "here": "", "next": "", "add": "ii", "sub": "ii", "and": "ii",
                 "or": "ii", "xor": "ii", "less": "ii", "same": "ii", "read": "i", "in": "p", "must": "ic",
                 "write": "ii", "out": "qi", "put": "ri", "goto": "i"}
        letters = {"r": "abc", "v": "mn"}
        numbers = {"c": "12"}
        for name, entries in kinds.items():
            tokens = [numbers.get(entry, "0") for entry in entries]
            good = " ".join([name] + tokens)
            self.assertEqual(Book.read(head + good + "\n").text(), head + good + "\n")
            self.told(head + good + " 0\n", "BadLine", 4)
            self.told(head + good + " \n", "BadLine", 4)
            self.told(head + " " + good + "\n", "BadLine", 4)
            self.told(head + good.upper() + "\n", "BadLine", 4)
            self.told(head + good + "\r\n", "BadLine", 4)
            for at, entry in enumerate(entries):
                self.told(head + " ".join([name] + tokens[:at] + tokens[at + 1:]) + "\n", "BadLine", 4)
                for token in ("", "00", "-1", "+0", "x", "0x0", "aa", "0" * 2, "1" * 41, "\u0661", "A"):
                    spoiled = tokens[:at] + [token] + tokens[at + 1:]
                    self.told(head + " ".join([name] + spoiled) + "\n", "BadLine", 4)
                for letter in "abcmn":
                    text = head + " ".join([name] + tokens[:at] + [letter] + tokens[at + 1:]) + "\n"
                    if letter in letters.get(entry, ""):
                        self.assertEqual(Book.read(text).text(), text)
                    else:
                        self.told(text, "BadLine", 4)

    def test_a_number_may_stand_everywhere(self):
        head = "word 4\nregisters 2\nform nop 0000\n"
        for line in ("get 99", "num 99", "add 99 99", "read 99", "in 99", "must 99 99", "write 99 99",
                     "out 99 99", "put 99 99", "goto 99"):
            self.told(head + line + "\n", "BadBook", "nop", 0)


if __name__ == "__main__":
    unittest.main()

"""Lines as parts of a pool ([57])."""

import random
import unittest

from helpers import refusal
from model import drawn_lines
from selfwritten.books import Book
from selfwritten.deeds import run_code
from selfwritten.lines import is_value, line_parts, registers_of
from selfwritten.pools import Pool

VALUES = [("get", 0), ("num", 3), ("here",), ("next",), ("add", 0, 1), ("sub", 0, 1), ("and", 0, 1), ("or", 0, 1),
          ("xor", 0, 1), ("less", 0, 1), ("same", 0, 1), ("read", 0), ("in", 5)]
OTHERS = [("must", 0, 12), ("write", 0, 1), ("out", 9, 0), ("put", 0, 1), ("goto", 0)]


class Kinds(unittest.TestCase):
    def test_is_value(self):
        for line in VALUES:
            self.assertIs(is_value(line), True, line)
        for line in OTHERS:
            self.assertIs(is_value(line), False, line)

    def test_registers_of(self):
        book = Book(4, 4, [("one", ["0aab", "mc0n"], ()), ("two", ["1mmn"], ()), ("six", ["1b00"], ())])
        one, two, six = book.forms
        self.assertEqual(registers_of(one, (3, 0, 1, 1, 0)), {"a": 3, "b": 0, "c": 1})
        self.assertEqual(registers_of(two, (3, 1)), {})
        self.assertEqual(registers_of(six, [1]), {"b": 1})

    def test_registers_of_is_new(self):
        form = Book(4, 4, [("one", ["0aab"], ())]).forms[0]
        registers_of(form, (3, 0))["a"] = 9
        self.assertEqual(registers_of(form, (3, 0)), {"a": 3, "b": 0})


class Parts(unittest.TestCase):
    def setUp(self):
        self.pool = Pool(6)
        self.regs = [self.pool.unknown(k) for k in range(2)]
        self.here, self.after = self.pool.unknown(2), self.pool.unknown(3)
        self.answers = [self.pool.unknown(k) for k in (4, 5)]
        self.numbers = {"m": self.pool.unknown(6), "n": self.pool.unknown(7)}

    def made(self, lines, registers=None, word=4):
        return line_parts(self.pool, word, lines, registers or {}, self.numbers, self.regs, self.here, self.after,
                          self.answers)

    def test_parts_that_are_given(self):
        lines = [("get", 1), ("get", "b"), ("get", "a"), ("here",), ("next",), ("num", "n"), ("num", "m")]
        made = self.made(lines, {"a": 0, "b": 1})
        wanted = [self.regs[1], self.regs[1], self.regs[0], self.here, self.after, self.numbers["n"],
                  self.numbers["m"]]
        self.assertEqual((made, type(made), len(self.pool)), (wanted, list, 8))

    def test_answers_in_their_order(self):
        lines = (("in", 0), ("get", 0), ("read", 1))
        self.assertEqual(self.made(lines), [self.answers[0], self.regs[0], self.answers[1]])
        lines = (("get", 0), ("write", 0, 0), ("read", 0), ("put", 0, 2), ("read", 0))
        self.assertEqual(self.made(lines), [self.regs[0], None, self.answers[0], None, self.answers[1]])

    def test_no_lines_and_other_lines(self):
        self.assertEqual(self.made([]), [])
        self.assertEqual(self.made([("get", 0)] + OTHERS), [self.regs[0]] + [None] * 5)
        self.assertEqual(len(self.pool), 8)

    def test_operations_are_lifted(self):
        lines = [("get", 0), ("get", 1)] + [(name, 0, 1) for name in Pool.ops()]
        made = self.made(lines)
        wanted = [("and", 8, 9), ("and", 9, 11), ("and", 0, 1), ("or", 0, 1), ("xor", 0, 1), ("less", 0, 1),
                  ("same", 0, 1)]
        self.assertEqual([self.pool.part(part) for part in made[2:]], wanted)
        self.assertEqual(list(self.pool)[8:12], [("add", 0, 1), ("num", 15), ("and", 8, 9), ("sub", 0, 1)])

    def test_parts_are_made_in_the_order_of_the_lines(self):
        self.made([("num", 9), ("get", 0), ("num", 2), ("sub", 1, 2), ("add", 3, 0)], word=6)
        wanted = [("num", 9), ("num", 2), ("sub", 0, 9), ("num", 63), ("add", 8, 10)]
        self.assertEqual(list(self.pool)[8:], wanted)

    def test_nothing_is_changed(self):
        rows = ([("get", "a"), ("in", 0)], {"a": 1})
        self.made(*rows)
        self.assertEqual(rows, ([("get", "a"), ("in", 0)], {"a": 1}))
        self.assertEqual((len(self.answers), len(self.regs), len(self.numbers)), (2, 2, 2))

    def test_too_many_parts(self):
        lines = [("get", 0), ("get", 1)] + [("add", k, k + 1) for k in range(9)]
        for number in range(8, 3995):
            self.pool.apply(("less", "xor")[number % 2], number - 1, number % 8)
        while len(self.pool) < 3999:
            self.pool.apply("same", len(self.pool) - 1, 0)
        self.assertEqual(refusal(self.made, lines), ("TooMany", "parts"))


class AgainstRuns(unittest.TestCase):
    """The part of each value line has, at the words of a run, the word that the line has in the run."""

    def check(self, rng, book, form, wide):
        numbers = tuple(rng.randrange(2 ** bits) for _, bits in form.letters)
        size = 2 ** book.word
        place = rng.choice((0, size - 1, rng.randrange(size)))
        regs = [rng.randrange(size) for _ in range(book.registers)]
        reads = [line for line in form.lines if line[0] in ("read", "in")]
        found = [rng.randrange(size) for _ in reads]
        words = [*regs, place, (place + form.size) % size, *found]
        pool = Pool(wide)
        parts = [pool.unknown(k) for k in range(len(words))]
        told = dict(zip([letter for letter, _ in form.letters], numbers))
        letters = {letter: pool.num(told[letter]) for letter in told if letter in "mn"}
        many = book.registers
        made = line_parts(pool, book.word, form.lines, registers_of(form, numbers), letters, parts[:many],
                          parts[many], parts[many + 1], parts[many + 2:])
        self.assertEqual(len(made), len(form.lines))
        for at, part in enumerate(made):
            self.assertEqual(part is None, not is_value(form.lines[at]))
            if part is not None:
                word = self.word_of_line(book, form, numbers, place, regs, found, at)
                self.assertEqual(pool.value(part, words), word, (form.lines, at))

    def word_of_line(self, book, form, numbers, place, regs, found, at):
        """The word of a value line: what a form of the lines up to it puts into register 0."""
        lines = [*form.lines[:at + 1], ("put", 0, at)]
        other = Book(book.word, book.registers, [("one", form.patterns, lines)])
        found = list(found)
        answers = []
        for line in lines:
            if line[0] in ("read", "in", "write", "out"):
                answers.append(found.pop(0) if line[0] in ("read", "in") else 0)
        _, handed = run_code(other, ("one", numbers), place, regs, answers)
        self.assertEqual(handed[:2], (None, 1))
        return handed[3][0]

    def test_drawn_forms(self):
        rng = random.Random(57)
        for number in range(150):
            word = rng.choice((4, 5, 8))
            registers = rng.choice((1, 2, 4))
            pattern = ["00ab" if registers > 1 else "00mn", "nnmm"]
            pattern = ["1" * (word - 4) + cell for cell in pattern]
            letters = [letter for letter in "abmn" if letter in "".join(pattern)]
            lines = drawn_lines(rng, word, registers, letters, 11)
            lines = [("get", 0) if line[0] == "must" else line for line in lines]
            book = Book(word, registers, [("one", pattern, lines)])
            self.check(rng, book, book.forms[0], rng.choice((word, word + 1, 12)))


if __name__ == "__main__":
    unittest.main()

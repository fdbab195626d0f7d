"""Forms, books and instructions that do the same ([130], [213])."""

import random
import unittest

from helpers import WRONG_NUMBERS, refusal
from model import code_of, drawn_apart, numbers_of, run_lines
from plain import drawn_image
from rowing import all_answers, or_too_many, registers_below
from selfwritten.books import Book
from selfwritten.checking import is_let_by
from selfwritten.errors import TooMany
from selfwritten.happenings import start
from selfwritten.likeness import books_alike, codes_alike, forms_alike
from selfwritten.machines import Machine
from selfwritten.runs import trail

VALUES = ("add", "sub", "and", "or", "xor", "less", "same")


def other_lines(rng, lines):
    """Lines that do the same in another way, or nearly the same."""
    lines = [list(line) for line in lines]
    at = rng.randrange(len(lines)) if lines else None
    if at is None:
        return []
    line = lines[at]
    kind = rng.random()
    if line[0] in ("add", "and", "or", "xor", "same") and kind < 0.6:
        line[1], line[2] = line[2], line[1]
    elif kind < 0.8:
        # Something that nothing names.
        lines.append(["get", 0])
    elif line[0] in VALUES:
        line[0] = rng.choice(VALUES)
    elif line[0] == "must":
        line[2] = rng.randrange(12, 16)
    elif line[0] in ("put", "goto") and at > 0:
        line[-1] = rng.choice([number for number in range(at) if lines[number][0] in ("get", "num", "here", "next", *VALUES)] or
                              [line[-1]])
    elif line[0] in ("in", "out"):
        line[1] = rng.randrange(6)
    elif line[0] == "num" and not isinstance(line[1], str):
        line[1] = (line[1] + 1) % 16
    return lines[:12]


def twin_of(rng, book):
    """A book of the same forms, some of whose lines are others, perhaps in another order."""
    forms = []
    for form in book.forms:
        lines = form.lines
        for _ in range(rng.randrange(4)):
            lines = other_lines(rng, lines)
        forms.append((form.name, form.patterns, lines))
    rng.shuffle(forms)
    try:
        return Book(book.word, book.registers, forms)
    except Exception:
        return book


def unlike_at(book, one, other, numbers, twins, places):
    """A place, registers and answers for which two forms with these numbers differ, all tried; or None."""
    for place in places:
        for regs in registers_below(book.word, book.registers):
            runs = all_answers(lambda told: run_lines(book, one, numbers, place, regs, told), book.word)
            for answers, asks, handed in runs:
                if run_lines(book, other, twins, place, regs, answers) != (asks, handed):
                    return place, regs, answers
    return None


def few(form):
    return sum(line[0] in ("read", "in") for line in form.lines) <= 1


class Forms(unittest.TestCase):
    def drawn(self, seed, many):
        rng = random.Random(seed)
        for _ in range(many):
            book = drawn_apart(rng, 4, rng.choice((1, 1, 2)), 5, signs="000111abmn", lines=6)
            yield rng, book, twin_of(rng, book)

    def check_shown(self, book, other, form, told):
        code, place, regs, answers = told
        self.assertTrue(all(isinstance(row, tuple) for row in (code, regs, answers)))
        numbers = [row for row in numbers_of(form) if code_of(form, row) == code][0]
        twin = other.form_named(form.name)
        first = run_lines(book, form, numbers, place, regs, answers)
        second = run_lines(other, twin, numbers, place, regs, answers)
        self.assertNotEqual(first, second)
        yes = answers[:-1] if answers and answers[-1] is None else answers
        self.assertNotIn(None, yes)
        self.assertEqual(first[0][:len(yes)], second[0][:len(yes)])
        same_ask = first[0][len(yes):][:1] == second[0][len(yes):][:1] != ()
        self.assertEqual(same_ask, answers != yes)

    def test_all_tried(self):
        told = {True: 0, False: 0}
        for rng, book, other in self.drawn(130, 200):
            for form in book.forms:
                twin = other.form_named(form.name)
                most = 40 if book.registers == 1 else 2
                if len(numbers_of(form)) > most or not few(form) or not few(twin):
                    continue
                found = or_too_many(forms_alike, book, other, form.name)
                if found == "TooMany":
                    continue
                places = range(0, 16, 3 if book.registers == 1 else 15)
                tried = any(unlike_at(book, form, twin, numbers, numbers, places) for numbers in numbers_of(form))
                if found is None:
                    self.assertFalse(tried)
                else:
                    self.check_shown(book, other, form, found)
                told[found is None] += 1
        self.assertGreater(told[True], 40)
        self.assertGreater(told[False], 10)

    def pair(self, one, other, patterns=("0001",), registers=1, word=4):
        return [Book(word, registers, [("odd", patterns, lines)]) for lines in (one, other)]

    def test_each_kind_of_difference(self):
        get = ("get", 0)
        for one, other, alike in (
            ([("num", 1), ("put", 0, 0)], [("num", 1), ("num", 2), ("put", 0, 0)], True),
            ([("num", 1), ("put", 0, 0)], [("num", 2), ("put", 0, 0)], False),
            ([], [get, ("put", 0, 0)], True),
            ([], [("next",), ("goto", 0)], True),
            ([], [("here",), ("goto", 0)], False),
            ([("here",), ("put", 0, 0)], [("next",), ("num", 1), ("sub", 0, 1), ("put", 0, 2)], True),
            ([("here",), ("put", 0, 0)], [("num", 7), ("put", 0, 0)], False),
            ([get, ("must", 0, 12)], [get, ("must", 0, 13)], False),
            ([get, ("must", 0, 12)], [get, get, ("must", 1, 12), ("must", 0, 13)], True),
            ([get, ("must", 0, 12)], [], False),
            ([get, ("read", 0)], [get, ("read", 0), ("read", 0)], False),
            ([get, ("read", 0)], [get], False),
            ([get, ("write", 0, 0)], [get, ("write", 0, 0), get], True),
            ([get, ("write", 0, 0)], [get, ("num", 3), ("write", 0, 1)], False),
            ([("in", 1), ("put", 0, 0)], [("in", 2), ("put", 0, 0)], False),
            ([("in", 1), ("put", 0, 0)], [("in", 1)], False),
            ([get, ("out", 1, 0)], [get, ("out", 2, 0)], False),
            ([get, ("same", 0, 0), ("must", 1, 12)], [], True),
        ):
            first, second = self.pair(one, other)
            told = forms_alike(first, second, "odd")
            self.assertEqual(told is None, alike, (one, other))
            self.assertEqual(forms_alike(second, first, "odd") is None, alike)
            if told is not None:
                self.check_shown(first, second, first.forms[0], told)

    def test_letters(self):
        patterns = ("00ab", "nnmm")
        one = [("get", "a"), ("num", "n"), ("add", 0, 1), ("put", "b", 2)]
        for other, alike in (([("num", "n"), ("get", "a"), ("add", 0, 1), ("put", "b", 2)], True),
                             ([("get", "b"), ("num", "n"), ("add", 0, 1), ("put", "b", 2)], False),
                             ([("get", "a"), ("num", "m"), ("add", 0, 1), ("put", "b", 2)], False),
                             ([("get", "a"), ("num", "n"), ("add", 0, 1), ("put", "a", 2)], False),
                             ([("get", "a"), ("num", "n"), ("num", 3), ("and", 1, 2), ("add", 0, 3), ("put", "b", 4)], True),
                             ([("get", "a"), ("num", "n"), ("num", 1), ("and", 1, 2), ("add", 0, 3), ("put", "b", 4)], False)):
            first, second = self.pair(one, other, patterns, 2)
            told = forms_alike(first, second, "odd")
            self.assertEqual(told is None, alike, other)
            if told is not None:
                self.check_shown(first, second, first.forms[0], told)

    def test_letters_of_few_bits(self):
        for letter, patterns in (("m", ("00mm", "nnnn")), ("n", ("00nn", "mmm0")), ("m", ("m000",)), ("n", ("n0mm",))):
            bits = "".join(patterns).count(letter)
            most = 2 ** bits - 1
            one = [("num", letter), ("put", 0, 0)]
            for mask in range(16):
                other = [("num", letter), ("num", mask), ("and", 0, 1), ("put", 0, 2)]
                first, second = self.pair(one, other, patterns)
                told = forms_alike(first, second, "odd")
                self.assertEqual(told is None, mask & most == most)
                if told is not None:
                    self.check_shown(first, second, first.forms[0], told)

    def test_several_reads(self):
        reads = [("get", 0), ("read", 0), ("read", 1), ("read", 2), ("in", 3)]
        for other, alike in (([("put", 0, 4)], True), ([("put", 0, 3)], False), ([("put", 0, 1)], False)):
            first, second = self.pair(reads + [("put", 0, 4)], reads + other)
            told = forms_alike(first, second, "odd")
            self.assertEqual(told is None, alike)
            if told is not None:
                self.assertEqual(len(told[3]), 4)
                self.check_shown(first, second, first.forms[0], told)

    def test_a_difference_at_one_place_registers_and_number(self):
        here = [("here",), ("get", 0), ("num", "n"), ("xor", 0, 1), ("xor", 1, 2), ("or", 3, 4), ("num", 250), ("xor", 0, 6),
                ("or", 5, 7), ("num", 0), ("same", 8, 9), ("put", 0, 10)]
        zero = [("num", 0), ("put", 0, 0)]
        first, second = self.pair(here, zero, ("00000001", "nnnnnnnn"), 1, 8)
        self.assertEqual(forms_alike(first, second, "odd"), ((1, 250), 250, (250,), ()))

    def test_too_many(self):
        one = [("get", 0)] + [("add", at, at) for at in range(10)] + [("put", 0, 10)]
        other = [("get", 0), ("add", 0, 0), ("add", 0, 1)] + [("add", at, 0) for at in range(2, 10)] + [("put", 0, 10)]
        self.assertEqual(refusal(forms_alike, *self.pair(one, other), "odd"), ("TooMany", "standing"))
        self.assertEqual(refusal(books_alike, *self.pair(one, other)), ("TooMany", "standing"))
        self.assertIsNone(forms_alike(*self.pair(one, one), "odd"))

    def test_refused(self):
        one = Book(4, 1, [("odd", ("0001",), ()), ("own", ("0010",), ())])
        two = Book(4, 1, [("odd", ("0011",), ())])
        for name in ("own", "nope", "", None, 3, ("odd",)):
            self.assertEqual(refusal(forms_alike, one, two, name), ("BadSource", 0))
            self.assertEqual(refusal(forms_alike, two, one, name), ("BadSource", 0))
        for other in (two, Book(5, 1, [("odd", ("00001",), ())]), Book(4, 2, [("odd", ("0001",), ())]),
                      Book(4, 1, [("odd", ("0001", "0000"), ())])):
            self.assertEqual(refusal(forms_alike, one, other, "odd"), ("BadPair",))
            self.assertEqual(refusal(books_alike, one, other), ("BadPair",))
        for registers in (2, 4):
            other = Book(4, registers, [("odd", ("0001",), ()), ("own", ("0010",), ())])
            self.assertEqual(refusal(books_alike, one, other), ("BadPair",))
            self.assertEqual(refusal(forms_alike, one, other, "own"), ("BadPair",))


class Books(unittest.TestCase):
    def test_the_first_form_in_the_order_of_the_first_book(self):
        one = Book(4, 1, [("a", ("0001",), ()), ("b", ("0010",), ()), ("c", ("0011",), ())])
        get = [("num", 3), ("put", 0, 0)]
        other = Book(4, 1, [("c", ("0011",), get), ("a", ("0001",), ()), ("b", ("0010",), get)])
        self.assertEqual(books_alike(one, other)[:2], ("b", (2,)))
        self.assertEqual(books_alike(other, one)[:2], ("c", (3,)))
        self.assertEqual(len(books_alike(one, other)), 5)
        self.assertIsNone(books_alike(one, Book(4, 1, [("c", ("0011",), ()), ("a", ("0001",), ()), ("b", ("0010",), ())])))

    def test_names_and_patterns(self):
        one = Book(4, 1, [("a", ("0001",), ()), ("b", ("0010",), [("num", 1), ("put", 0, 0)])])
        for forms in ([("a", ("0001",), ())], [("a", ("0001",), ()), ("c", ("0010",), ())],
                      [("a", ("0001",), ()), ("b", ("0011",), ())], [("a", ("0001",), ()), ("b", ("0010",), ()), ("c", ("0100",), ())]):
            other = Book(4, 1, forms)
            self.assertEqual(refusal(books_alike, one, other), ("BadPair",))
            self.assertEqual(refusal(books_alike, other, one), ("BadPair",))

    def test_the_patterns_are_looked_at_ahead_of_the_lines(self):
        one = Book(4, 1, [("a", ("0001",), ()), ("b", ("0010",), ())])
        other = Book(4, 1, [("a", ("0001",), [("num", 1), ("put", 0, 0)]), ("b", ("0011",), ())])
        self.assertEqual(refusal(books_alike, one, other), ("BadPair",))

    def test_machines_of_books_that_are_alike(self):
        rng = random.Random(213)
        alike, steps = 0, 0
        while alike < 40:
            book = drawn_apart(rng, 4, 2, 8, lines=6)
            other = twin_of(rng, book)
            try:
                if not is_let_by(book) or not is_let_by(other) or books_alike(book, other) is not None:
                    continue
            except TooMany:
                continue
            alike += 1
            events = [(rng.randrange(20), "cell", rng.randrange(16), rng.randrange(16)) for _ in range(4)]
            machines = [Machine(own, depth=2, events=events) for own in (book, other)]
            image, vector = drawn_image(rng, machines[0]), rng.choice((None, 3))
            worlds = [list(trail(machine, start(machine, image, (0,), vectors=(vector,)), 40)) for machine in machines]
            self.assertEqual(worlds[0], worlds[1])
            steps += len(worlds[0])
        self.assertGreater(steps, 100)


class Codes(unittest.TestCase):
    def test_all_tried(self):
        rng = random.Random(1301)
        told = {True: 0, False: 0}
        for _ in range(150):
            book = drawn_apart(rng, 4, 1, 6, signs="000111mn", lines=4)
            forms = [form for form in book.forms if few(form)]
            if len(forms) < 2:
                continue
            one, other = rng.choice(forms), rng.choice(forms)
            numbers, twins = rng.choice(numbers_of(one)), rng.choice(numbers_of(other))
            place = rng.randrange(16)
            found = or_too_many(codes_alike, book, (one.name, numbers), [other.name, list(twins)], place)
            if found == "TooMany":
                continue
            tried = unlike_at(book, one, other, numbers, twins, [place])
            self.assertEqual(found is None, tried is None)
            told[found is None] += 1
            if found is not None:
                regs, answers = found
                self.assertNotEqual(run_lines(book, one, numbers, place, regs, answers),
                                    run_lines(book, other, twins, place, regs, answers))
        self.assertGreater(min(told.values()), 15)

    def test_by_the_place(self):
        forms = [("here", ("0001",), [("here",), ("put", 0, 0)]), ("set", ("0010", "nnnn"), [("num", "n"), ("put", 0, 0)]),
                 ("go", ("0011", "nnnn"), [("num", "n"), ("goto", 0)]), ("nop", ("0100",), ())]
        book = Book(4, 1, forms)
        for place in range(16):
            for number in range(16):
                told = codes_alike(book, ("go", (number,)), ("nop", ()), place)
                self.assertEqual(told is None, number == (place + 1) % 16)
                # Codes of unlike sizes hand over unlike places.
                self.assertIsNotNone(codes_alike(book, ("here", ()), ("set", (number,)), place))

    def test_refused(self):
        book = Book(4, 1, [("nop", ("0100",), ()), ("set", ("0010", "nnnn"), [("num", "n"), ("put", 0, 0)])])
        good = ("nop", ())
        for wrong in (None, 3, "nop", ("nop",), ("odd", ()), ("nop", (1,)), ("set", (16,)), ("set", ())):
            self.assertEqual(refusal(codes_alike, book, wrong, None, -1), ("BadSource", 0))
            self.assertEqual(refusal(codes_alike, book, wrong, good, -1), ("BadSource", 0))
            self.assertEqual(refusal(codes_alike, book, good, wrong, -1), ("BadSource", 0))
        for place in (-1, 16, *WRONG_NUMBERS):
            self.assertEqual(refusal(codes_alike, book, good, good, place), ("BadNumber", "place"))


if __name__ == "__main__":
    unittest.main()

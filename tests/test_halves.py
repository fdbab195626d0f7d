"""Half runs ([52] to [54])."""

import random
import unittest

from helpers import WRONG_NUMBERS, refusal
from model import all_runs, drawn_lines, is_whole, numbers_of, rows_of_words
from selfwritten.books import Book
from selfwritten.codes import decoded
from selfwritten.deeds import run_code, whole
from selfwritten.halves import half_run


def one_form(lines, patterns=("0000",), word=4, registers=1):
    """A book of one form."""
    return Book(word, registers, [("one", patterns, lines)])


def tried(book, form):
    """Whether some run of the form is not whole: all instructions, places, registers and answers are tried."""
    used = {line[0] for line in form.lines}
    places = range(2 ** book.word) if used & {"here", "next"} else (0,)
    read = {line[1] for line in form.lines if line[0] == "get" and isinstance(line[1], int)}
    every = bool(read) or used & {"get"}
    rows = rows_of_words(book.word, book.registers) if every else [(0,) * book.registers]
    for numbers in numbers_of(form):
        for place in places:
            for regs in rows:
                for asks, answers, handed in all_runs(book, form, numbers, place, regs):
                    if not is_whole(asks, answers, handed):
                        return True
    return False


class Case(unittest.TestCase):
    def shown(self, book, name="one"):
        """Whether a run is shown; it is run again."""
        told = half_run(book, name)
        if told is None:
            return False
        code, place, regs, answers = told
        self.assertEqual([type(told), type(code), type(regs), type(answers)], [tuple] * 4)
        instruction, size = decoded(book, code)
        self.assertEqual((instruction[0], size), (name, len(code)))
        asks, handed = run_code(book, instruction, place, regs, answers)
        self.assertIs(whole(asks, answers, handed), False)
        return True

    def half(self, *lines, **more):
        self.assertTrue(self.shown(one_form(lines, **more)), lines)

    def not_half(self, *lines, **more):
        self.assertFalse(self.shown(one_form(lines, **more)), lines)


GET, READ, IN, OUT, WRITE = ("get", 0), ("read", 0), ("in", 0), ("out", 0, 0), ("write", 0, 0)


class Forms(Case):
    def test_nothing_behind_the_effect(self):
        self.not_half()
        self.not_half(GET, READ, ("must", 1, 12), READ)
        for effect in (IN, OUT, WRITE):
            self.not_half(GET, effect)
            self.not_half(GET, READ, ("must", 0, 12), ("must", 1, 13), effect)
            self.not_half(GET, effect, ("here",), ("put", 0, 0), ("goto", 0))

    def test_a_read_behind_the_effect(self):
        for effect in (IN, OUT, WRITE):
            self.half(GET, effect, READ)
            self.half(GET, effect, ("put", 0, 0), READ, ("goto", 0))
            self.half(GET, READ, effect, READ)

    def test_a_must_behind_the_effect(self):
        for effect in (IN, OUT, WRITE):
            self.half(GET, effect, ("must", 0, 12))
            self.half(GET, READ, effect, ("must", 1, 15))
        self.half(IN, ("must", 0, 12))
        self.half(IN, ("num", 0), ("must", 1, 12))

    def test_a_must_that_never_finds_0(self):
        one = ("num", 1)
        self.not_half(GET, OUT, one, ("must", 2, 12))
        self.not_half(GET, OUT, one, ("or", 0, 2), ("must", 3, 12))
        self.not_half(GET, OUT, ("same", 0, 0), ("must", 2, 12))
        self.not_half(IN, ("num", 15), ("or", 0, 1), ("must", 2, 12))
        self.half(GET, OUT, one, ("and", 0, 2), ("must", 3, 12))

    def test_behind_a_must_that_always_finds_0(self):
        zero = ("num", 0)
        self.not_half(GET, zero, ("must", 1, 12), OUT, READ)
        self.not_half(GET, zero, ("must", 1, 12), OUT, ("must", 0, 12))
        self.half(GET, zero, OUT, ("must", 1, 12), READ)
        # No run finds both words other than 0.
        apart = (("num", 3), ("same", 0, 1), ("num", 4), ("same", 0, 3))
        self.not_half(GET, *apart, ("must", 2, 12), ("must", 4, 12), OUT, READ)
        self.half(GET, *apart, ("must", 2, 12), OUT, READ)

    def test_musts_ahead(self):
        self.not_half(GET, ("must", 0, 12), OUT, ("must", 0, 13))
        self.half(GET, ("must", 0, 12), OUT, ("add", 0, 0), ("must", 3, 13))
        self.half(GET, ("get", 1), ("must", 0, 12), OUT, ("must", 1, 13), registers=2)
        # What is asked of the second word follows from the first must.
        self.not_half(GET, ("num", 8), ("less", 0, 1), ("must", 2, 12), OUT, ("num", 7), ("less", 5, 0),
                      ("same", 6, 6), ("must", 7, 13))
        less = (GET, ("num", 8), ("less", 0, 1), ("must", 2, 12), OUT, ("num", 9), ("less", 0, 5))
        self.not_half(*less, ("must", 6, 13))
        self.half(*less[:5], ("num", 7), ("less", 0, 5), ("must", 6, 13))

    def test_one_address_read_twice(self):
        same = ("same", 1, 2)
        self.half(GET, READ, READ, same, OUT, ("must", 3, 12))
        self.not_half(GET, READ, READ, same, ("must", 3, 12), OUT, ("must", 3, 13))
        self.half(GET, READ, ("must", 1, 12), READ, OUT, ("must", 3, 13))
        self.not_half(GET, READ, ("must", 1, 12), READ, OUT, ("must", 1, 13))
        self.half(GET, READ, OUT, READ)
        self.half(GET, READ, ("must", 1, 12), OUT, READ, ("must", 4, 13))

    def test_in_is_answered_by_any_word(self):
        self.half(IN, ("num", 15), ("same", 0, 1), ("sub", 2, 2), ("must", 3, 12))
        self.half(IN, ("num", 15), ("xor", 0, 1), ("must", 2, 12))

    def test_here_and_next(self):
        self.half(GET, OUT, ("here",), ("must", 2, 12))
        self.half(GET, OUT, ("next",), ("must", 2, 12))
        for size in (1, 2, 3):
            lines = (GET, OUT, ("here",), ("next",), ("sub", 3, 2), ("num", size), ("same", 4, 5), ("must", 6, 12))
            self.not_half(*lines, patterns=["0000"] * size)
            self.half(*lines[:6], ("xor", 4, 5), ("must", 6, 12), patterns=["0000"] * size)
            self.not_half(*lines[:4], ("same", 3, 2), ("num", 1), ("xor", 4, 5), ("must", 6, 12),
                          patterns=["0000"] * size)

    def test_number_letters_have_their_bits(self):
        lines = (GET, OUT, ("num", "n"), ("num", 8), ("less", 2, 3), ("must", 4, 12))
        self.not_half(*lines, patterns=["0nnn"])
        self.half(*lines, patterns=["nnnn"])
        self.not_half(*lines, patterns=["mnnn"])
        both = (GET, OUT, ("num", "m"), ("num", "n"), ("xor", 2, 3), ("num", 3), ("xor", 4, 5), ("must", 6, 12))
        self.not_half(*both, patterns=["00mn"])
        self.half(*both, patterns=["0mmn"])

    def test_register_letters(self):
        lines = (("get", "a"), ("get", "b"), ("same", 0, 1), ("must", 2, 12), OUT, ("must", 2, 13))
        self.not_half(*lines, patterns=["0aab"], registers=4)
        self.half(*lines[:2], ("sub", 0, 1), OUT, ("must", 2, 12), patterns=["0aab"], registers=4)
        # Only where both letters are one register the word is 0.
        lines = (("get", "a"), ("get", 1), ("less", 0, 1), ("less", 1, 0), ("or", 2, 3), ("must", 4, 12), OUT,
                 ("less", 0, 1), ("less", 1, 0), ("xor", 7, 8), ("must", 9, 13))
        self.not_half(*lines, patterns=["000a"], registers=2)
        lines = (("get", "a"), ("get", 3), ("sub", 0, 1), ("num", 1), ("or", 2, 3), ("must", 4, 12), OUT,
                 ("must", 2, 12))
        self.half(*lines, patterns=["00aa"], registers=4)

    def test_a_run_of_the_last_row_of_register_letters(self):
        # The words of a and b are never equal here but for a = b = 3, since the musts ask for it.
        lines = (("get", "a"), ("get", "b"), ("get", 3), ("xor", 0, 1), ("same", 0, 2), ("get", 2), ("num", 15))
        lines += (("same", 5, 6), ("must", 7, 12), OUT, ("must", 4, 13))
        self.half(*lines, patterns=["aabb"], registers=4)

    def test_width_8(self):
        nine = ("num", 200)
        self.not_half(GET, nine, ("less", 0, 1), ("must", 2, 12), OUT, ("num", 255), ("xor", 0, 5), ("must", 6, 13),
                      word=8, patterns=["00000000"])
        self.half(GET, nine, ("less", 0, 1), ("must", 2, 12), OUT, ("num", 199), ("xor", 0, 5), ("must", 6, 13),
                  word=8, patterns=["00000000"])

    def test_three_answers(self):
        # Only with the answers in their order all musts ahead find words other than 0.
        self.half(GET, READ, READ, ("less", 1, 2), ("must", 3, 12), READ, ("less", 2, 5), ("must", 6, 12), OUT,
                  ("num", 5), ("xor", 2, 9), ("must", 10, 13))

    def test_the_run_that_is_shown(self):
        """A read behind the effect without musts ahead: the row of zeros, 0 for the effect, then None."""
        shown = {effect: half_run(one_form([GET, effect, READ]), "one") for effect in (IN, OUT, WRITE)}
        self.assertEqual(shown, {effect: ((0,), 0, (0,), (0, None)) for effect in (IN, OUT, WRITE)})
        book = one_form([GET, READ, OUT, READ, READ], ["01an", "mmmm"], registers=2)
        self.assertEqual(half_run(book, "one"), ((4, 0), 0, (0, 0), (0, 0, None)))
        # The rows of the register letters: the last letter's number changes fastest.
        book = one_form([("get", "a"), ("get", "b"), ("same", 0, 1), OUT, ("must", 2, 12)], ["00ab"], registers=2)
        self.assertEqual(half_run(book, "one")[0], (1,))
        # Musts ahead of which a single word is not 0, or is 0.
        book = one_form([GET, ("num", 9), ("same", 0, 1), ("must", 2, 12), OUT, ("sub", 0, 1), ("must", 5, 13)])
        self.assertEqual(half_run(book, "one"), ((0,), 0, (9,), (0,)))
        book = one_form([IN, ("num", 9), ("xor", 0, 1), ("must", 2, 12)], word=8, patterns=["1111111n"])
        self.assertEqual(half_run(book, "one")[3], (9,))

    def test_which_form(self):
        book = Book(4, 1, [("good", ["0000"], [GET, OUT]), ("bad", ["0001"], [GET, OUT, READ]), ("nop", ["001m"], ())])
        self.assertEqual([self.shown(book, name) for name in ("good", "bad", "nop")], [False, True, False])
        for name in ("", "other", "BAD", *WRONG_NUMBERS):
            self.assertEqual(refusal(half_run, book, name), ("BadSource", 0))


class TooManyStanding(Case):
    def told(self, lines, registers=1):
        return refusal(half_run, one_form(lines, registers=registers), "one")

    def test_7_and_8_compared(self):
        lines = [IN, GET] + [("less", 1, 0)] + [("less", 2 + k, k % 2) for k in range(7)]
        self.assertEqual(self.told(lines + [("must", 9, 12)]), ("TooMany", "standing"))
        self.assertIsNone(self.told(lines + [("must", 8, 12)]))
        self.half(*lines, ("must", 8, 12))

    def test_one_must_fewer(self):
        # Both musts together reach 7 comparisons and the sum of next, the second one alone 3 and the sum.
        lines = [("next",), GET, ("less", 0, 1), ("less", 2, 0), ("less", 3, 1), ("less", 4, 0), ("must", 5, 12),
                 IN, ("less", 7, 1), ("less", 8, 7), ("less", 9, 1), ("must", 10, 13)]
        self.assertEqual(self.told(lines), ("TooMany", "standing"))
        lines[6] = ("put", 0, 0)
        self.assertIsNone(self.told(lines))
        # Without the sum both musts are just within the bound.
        lines[6], lines[0] = ("must", 5, 12), ("get", 1)
        self.assertIsNone(self.told(lines, registers=2))

    def test_one_read_fewer(self):
        # A read behind the effect is decided by the musts ahead; without it nothing is decided.
        lines = [GET, ("next",), ("less", 0, 1), ("less", 2, 0), ("less", 3, 1), ("less", 4, 0), ("less", 5, 1),
                 ("less", 6, 0), ("less", 7, 1), ("must", 8, 12), IN]
        self.assertEqual(self.told(lines + [("read", 0)]), ("TooMany", "standing"))
        self.assertIsNone(self.told(lines))
        self.assertIsNone(self.told(lines[:9] + [("must", 7, 12), IN, ("read", 0)]))

    def test_a_run_found_ahead_ends_the_search(self):
        chain = [GET, IN, ("less", 1, 0)] + [("less", 2 + k, k % 2) for k in range(7)]
        self.assertEqual(self.told(chain + [("must", 9, 12)]), ("TooMany", "standing"))
        self.assertIsNone(self.told(chain[:2] + [("must", 0, 13)] + [("less", 1, 0)]
                                    + [("less", 3 + k, k % 2) for k in range(7)] + [("must", 10, 12)]))

    def test_the_rows_of_register_letters_in_their_order(self):
        # For a = 0 line 3 is the word 0, so that all lines behind it are words; for a = 1 none is.
        lines = [IN, ("get", "a"), GET, ("sub", 1, 2), ("less", 0, 3), ("less", 4, 3), ("same", 5, 3), ("less", 6, 3),
                 ("same", 7, 3), ("less", 8, 3), ("same", 9, 3), ("must", 10, 12)]
        for letter, told in ((0, None), (1, ("TooMany", "standing")), ("a", ("TooMany", "standing"))):
            book = Book(4, 2, [("one", ["000a"], [IN, ("get", letter)] + lines[2:])])
            self.assertEqual(refusal(half_run, book, "one"), told)
            if told is None:
                self.assertFalse(self.shown(book))
        # Here the first row shows a run, and the second one is not looked at.
        lines[10] = ("less", 9, 3)
        book = Book(4, 2, [("one", ["000a"], lines)])
        self.assertTrue(self.shown(book))
        self.assertEqual(half_run(book, "one")[0], (0,))


class AgainstAllRuns(Case):
    def check(self, rng, registers, patterns, many, most):
        letters = sorted(set("".join(patterns)) & set("abcmn"))
        while True:
            lines = drawn_lines(rng, 4, registers, letters, many, half=True)
            kinds = [line[0] for line in lines]
            effects = [kinds.index(kind) for kind in ("in", "out", "write") if kind in kinds]
            if effects and {"read", "must"} & set(kinds[effects[0]:]):
                if len([kind for kind in kinds if kind in ("read", "in")]) <= most:
                    break
        book = Book(4, registers, [("one", patterns, lines)])
        wanted = tried(book, book.forms[0])
        self.assertEqual(self.shown(book), wanted, lines)
        return wanted

    def test_one_register(self):
        rng = random.Random(54)
        told = [self.check(rng, 1, ["0000"], rng.randrange(3, 9), 2) for _ in range(250)]
        self.assertGreater(told.count(True), 50)
        self.assertGreater(told.count(False), 15)

    def test_letters(self):
        rng = random.Random(55)
        told = [self.check(rng, 2, ["00an"], rng.randrange(4, 10), 1) for _ in range(60)]
        self.assertGreater(told.count(True), 10)
        self.assertGreater(told.count(False), 5)

    def test_constants_and_comparisons(self):
        """Forms with musts whose words are often 0 at few words only, or never."""
        rng = random.Random(56)
        told = []
        for _ in range(150):
            head = [GET, ("num", rng.randrange(16)), (rng.choice(("less", "same", "or", "xor")), 0, 1)]
            musts = [("must", rng.choice((0, 1, 2, 2)), 12) for _ in range(rng.randrange(3))]
            tail = [("num", rng.randrange(16))]
            at = len(head) + len(musts) + 1
            tail += [(rng.choice(("less", "less", "same", "or", "add")), *rng.choice(((0, at), (at, 0), (2, at))))]
            tail += [("must", at + 1, 13)]
            lines = head + musts + [OUT] + tail
            book = one_form(lines)
            wanted = tried(book, book.forms[0])
            self.assertEqual(self.shown(book), wanted, lines)
            told.append(wanted)
        self.assertGreater(told.count(True), 30)
        self.assertGreater(told.count(False), 30)


if __name__ == "__main__":
    unittest.main()

"""What an instruction does ([46] to [51]), and runs that are whole ([52])."""

import random
import unittest

from helpers import OPS, WRONG_NUMBERS, WRONG_ROWS, operation, refusal
from model import all_runs, drawn_book, is_whole, numbers_of, run_lines
from selfwritten.books import Book
from selfwritten.deeds import named, run_code, whole


def run_of(lines, place=0, regs=(0, 0), answers=(), word=4, size=1):
    """The run of a form with these lines and no letters."""
    book = Book(word, len(regs), [("one", ["0" * word] * size, lines)])
    return run_code(book, ("one", ()), place, regs, answers)


def left(lines, **more):
    """The registers behind these lines."""
    asks, handed = run_of(lines, **more)
    assert handed[:2] == (None, 1)
    return handed[3]


class Values(unittest.TestCase):
    def test_get(self):
        self.assertEqual(left([("get", 1), ("put", 0, 0)], regs=(3, 9)), (9, 9))
        self.assertEqual(left([("get", 3), ("put", 0, 0)], regs=(1, 2, 3, 4)), (4, 2, 3, 4))

    def test_register_letters(self):
        lines = [("get", "a"), ("get", "b"), ("put", "c", 0), ("put", 3, 1)]
        book = Book(4, 4, [("one", ["aabb", "cc00"], lines)])
        asks, handed = run_code(book, ("one", (1, 2, 0)), 5, (6, 7, 8, 9), ())
        self.assertEqual((asks, handed), ((), (None, 1, 7, (7, 7, 8, 8))))

    def test_num(self):
        lines = [("num", "m"), ("num", "n"), ("num", 15), ("put", 0, 0), ("put", 1, 1), ("put", 2, 2)]
        book = Book(4, 3, [("one", ["mmm0", "nnnn"], lines)])
        self.assertEqual(run_code(book, ("one", [5, 9]), 0, [0, 0, 0], [])[1], (None, 1, 2, (5, 9, 15)))

    def test_here_and_next(self):
        lines = [("here",), ("next",), ("put", 0, 0), ("put", 1, 1)]
        for place, size, after in ((0, 1, 1), (15, 1, 0), (14, 3, 1), (15, 3, 2), (13, 2, 15), (14, 2, 0)):
            asks, handed = run_of(lines, place=place, size=size)
            self.assertEqual(handed, (None, 1, after, (place, after)))
        self.assertEqual(run_of(lines, place=254, size=3, word=8)[1], (None, 1, 1, (254, 1)))

    def test_operations(self):
        rng = random.Random(46)
        for word in (4, 8):
            for name in OPS:
                lines = [("get", 0), ("get", 1), (name, 0, 1), ("put", 0, 2), (name, 1, 0), ("put", 1, 4)]
                for _ in range(40):
                    x, y = rng.randrange(2 ** word), rng.randrange(2 ** word)
                    y = rng.choice((x, y, y))
                    wanted = (operation(name, x, y, word), operation(name, y, x, word))
                    self.assertEqual(left(lines, regs=(x, y), word=word), wanted, name)

    def test_every_get_gives_the_first_word(self):
        lines = [("num", 7), ("put", 0, 0), ("get", 0), ("put", 1, 2)]
        self.assertEqual(left(lines, regs=(3, 4)), (7, 3))
        swap = [("get", 0), ("get", 1), ("put", 0, 1), ("put", 1, 0)]
        self.assertEqual(left(swap, regs=(3, 4)), (4, 3))

    def test_answers_are_words_of_their_lines(self):
        lines = [("get", 0), ("read", 0), ("in", 5), ("sub", 1, 2), ("put", 0, 3)]
        asks, handed = run_of(lines, regs=(6, 0), answers=(9, 4))
        self.assertEqual((asks, handed), ((("read", 6), ("in", 5)), (None, 1, 1, (5, 0))))


class Asks(unittest.TestCase):
    LINES = [("get", 0), ("get", 1), ("read", 1), ("write", 0, 2), ("read", 2), ("put", 0, 4)]

    def test_in_the_order_of_the_lines(self):
        asks, handed = run_of(self.LINES, regs=(3, 8), answers=(5, 0, 7))
        self.assertEqual((asks, handed), ((("read", 8), ("write", 3, 5), ("read", 5)), (None, 1, 1, (7, 8))))

    def test_each_kind(self):
        get = ("get", 0)
        asks = [run_of([get, *lines], regs=(6, 0), answers=(0, 0))[0] for lines in (
            [("read", 0)], [("in", 3)], [("out", 9, 0)], [("num", 2), ("write", 1, 0)], [("write", 0, 0)])]
        self.assertEqual(asks, [(("read", 6),), (("in", 3),), (("out", 9, 6),), (("write", 2, 6),),
                                (("write", 6, 6),)])

    def test_any_word_means_yes(self):
        for line in (("write", 0, 0), ("out", 0, 0)):
            for word in (0, 1, 15):
                asks, handed = run_of([("get", 0), line], answers=(word,))
                self.assertEqual(handed, (None, 1, 1, (0, 0)))
        # The word is not used, though a value line stands behind it.
        lines = [("get", 0), ("out", 1, 0), ("num", 3), ("put", 0, 2), ("put", 1, 0)]
        self.assertEqual(left(lines, regs=(4, 5), answers=(9,)), (3, 4))

    def test_no_at_each_kind(self):
        for line, cause in ((("read", 0), 10), (("write", 0, 0), 11), (("in", 0), None), (("out", 0, 0), None)):
            lines = [("get", 0), ("num", 9), ("put", 0, 1), ("goto", 1), line, ("read", 0)]
            asks, handed = run_of(lines, place=7, regs=(2, 3), answers=(None,))
            self.assertEqual((len(asks), asks[0][0]), (1, line[0]))
            self.assertEqual(handed, (cause, 0, 7, (2, 3)))

    def test_behind_the_last_answer_all_are_no(self):
        for many, told in ((0, 10), (1, 11), (2, 10)):
            asks, handed = run_of(self.LINES, place=5, regs=(3, 8), answers=(1,) * many)
            self.assertEqual((len(asks), handed), (many + 1, (told, 0, 5, (3, 8))))

    def test_no_ahead_of_further_answers(self):
        asks, handed = run_of(self.LINES, regs=(3, 8), answers=(5, None, 7))
        self.assertEqual((asks, handed), ((("read", 8), ("write", 3, 5)), (11, 0, 0, (3, 8))))

    def test_more_answers_than_asks(self):
        self.assertEqual(run_of([], answers=(1, None, 2)), ((), (None, 1, 1, (0, 0))))


class Musts(unittest.TestCase):
    def test_causes(self):
        for cause in range(12, 16):
            lines = [("get", 0), ("get", 1), ("put", 0, 1), ("goto", 1), ("must", 0, cause), ("read", 0)]
            self.assertEqual(run_of(lines, place=9, regs=(0, 5)), ((), (cause, 0, 9, (0, 5))))
            self.assertEqual(run_of(lines, place=9, regs=(1, 5), answers=(2,)), ((("read", 1),), (None, 1, 5, (5, 5))))

    def test_the_first_one_that_finds_0(self):
        lines = [("get", 0), ("get", 1), ("must", 0, 12), ("must", 1, 13), ("must", 0, 14)]
        told = [run_of(lines, regs=regs)[1][0] for regs in ((0, 0), (1, 0), (0, 1), (1, 1))]
        self.assertEqual(told, [12, 13, 12, None])

    def test_asks_ahead_are_told(self):
        lines = [("get", 0), ("read", 0), ("must", 1, 15)]
        self.assertEqual(run_of(lines, regs=(4, 4), answers=(0,)), ((("read", 4),), (15, 0, 0, (4, 4))))


class Ends(unittest.TestCase):
    def test_no_lines(self):
        self.assertEqual(run_of([], place=15, regs=(3, 4)), ((), (None, 1, 0, (3, 4))))

    def test_12_lines(self):
        lines = [("get", 0)] + [("add", k, k) for k in range(10)] + [("put", 0, 3)]
        self.assertEqual(left(lines, regs=(1, 0)), (8, 0))

    def test_the_last_put_of_a_register_holds(self):
        lines = [("num", 1), ("num", 2), ("put", 0, 1), ("put", 0, 0), ("put", 1, 0), ("put", 1, 1)]
        self.assertEqual(left(lines), (1, 2))
        book = Book(4, 2, [("one", ["000a"], lines[:3] + [("put", "a", 0)])])
        told = [run_code(book, ("one", (number,)), 0, (9, 9), ())[1][3] for number in (0, 1)]
        self.assertEqual(told, [(1, 9), (2, 1)])

    def test_goto(self):
        lines = [("get", 0), ("goto", 0), ("num", 3), ("put", 0, 2)]
        for size in (1, 3):
            self.assertEqual(run_of(lines, place=6, regs=(12, 0), size=size), ((), (None, 1, 12, (3, 0))))

    def test_one_and_four_registers(self):
        self.assertEqual(left([("num", 5), ("put", 0, 0)], regs=(1,)), (5,))
        self.assertEqual(left([("num", 5), ("put", 3, 0)], regs=(1, 2, 3, 4)), (1, 2, 3, 5))

    def test_kinds(self):
        told = run_of([("get", 0), ("read", 0)], regs=[1, 2], answers=[3])
        self.assertEqual([type(one) for one in (told, told[0], told[0][0], told[1], told[1][3])], [tuple] * 5)
        stopped = run_of([("get", 0), ("read", 0)], regs=[1, 2], answers=[None])
        self.assertIsInstance(stopped[1][3], tuple)


class Refused(unittest.TestCase):
    def setUp(self):
        self.book = Book(4, 2, [("one", ["000a"], [("get", "a"), ("read", 0)]), ("two", ["1000"], ())])

    def told(self, instruction=("one", (1,)), place=0, regs=(0, 0), answers=()):
        return refusal(run_code, self.book, instruction, place, regs, answers)

    def test_instruction(self):
        for instruction in (*WRONG_ROWS, (), ("one",), ("one", (2,)), ("one", (True,)), ("one", ()), ("six", ()),
                            ("one", ("a",)), ("one", 1), (None, ()), ("two", (0,))):
            self.assertEqual(self.told(instruction, 99, None, None), ("BadSource", 0), instruction)
            self.assertEqual(refusal(named, self.book, instruction), ("BadSource", 0), instruction)

    def test_place(self):
        for place in (-1, 16, *WRONG_NUMBERS):
            self.assertEqual(self.told(place=place, regs=None, answers=None), ("BadNumber", "place"))
        self.assertIsNone(self.told(place=15))

    def test_regs(self):
        for regs in (*WRONG_ROWS, (), (1,), (1, 2, 3)):
            self.assertEqual(self.told(regs=regs, answers=None), ("BadWords", -1), regs)
        for word in (-1, 16, *WRONG_NUMBERS):
            self.assertEqual(self.told(regs=(word, word), answers=None), ("BadWords", 0))
            self.assertEqual(self.told(regs=[0, word], answers=(99,)), ("BadWords", 1))

    def test_answers(self):
        for answers in WRONG_ROWS:
            self.assertEqual(self.told(answers=answers), ("BadWords", -1), answers)
        for word in (-1, 16, *[wrong for wrong in WRONG_NUMBERS if wrong is not None]):
            self.assertEqual(self.told(answers=(None, 3, word, word)), ("BadWords", 2), word)
        self.assertIsNone(self.told(answers=[None, 15, 0]))

    def test_changes_nothing(self):
        regs, answers, instruction = [1, 2], [3, None], ["one", [1]]
        run_code(self.book, instruction, 0, regs, answers)
        self.assertEqual((regs, answers, instruction), ([1, 2], [3, None], ["one", [1]]))


class Named(unittest.TestCase):
    def test_gets_and_puts(self):
        lines = [("get", "b"), ("put", 3, 0), ("num", "n"), ("read", 0), ("write", 0, 2), ("goto", 2)]
        book = Book(4, 4, [("one", ["0bbn"], lines), ("two", ["1aab"], [("get", 2), ("put", "a", 0), ("get", 2)]),
                           ("six", ["0000"], [("num", 1), ("here",), ("next",), ("goto", 0)])])
        self.assertEqual([named(book, ("one", (number, 1))) for number in range(4)], [(0, 3), (1, 3), (2, 3), (3,)])
        self.assertEqual([named(book, ["two", [number, 1]]) for number in (0, 1, 2)], [(0, 2), (1, 2), (2,)])
        self.assertEqual(named(book, ("six", ())), ())
        self.assertEqual(named(Book(4, 1, [("one", ["0000"], [("get", 0)])]), ("one", ())), (0,))

    def test_registers_that_are_not_named(self):
        rng = random.Random(51)
        seen = 0
        for _ in range(200):
            book = drawn_book(rng, 4, rng.choice((2, 4)), 1, lines=12)
            form = book.forms[0]
            told = (form.name, rng.choice(numbers_of(form)))
            regs = [rng.randrange(16) for _ in range(book.registers)]
            answers = [rng.randrange(16) for _ in range(rng.choice((1, 12)))]
            asks, handed = run_code(book, told, 3, regs, answers)
            for register in range(book.registers):
                if register not in named(book, told):
                    self.assertEqual(handed[3][register], regs[register])
                    other = list(regs)
                    other[register] = rng.randrange(16)
                    wanted = list(handed[3])
                    wanted[register] = other[register]
                    got = run_code(book, told, 3, other, answers)
                    self.assertEqual(got, (asks, handed[:3] + (tuple(wanted),)))
                    seen += 1
        self.assertGreater(seen, 100)


class Whole(unittest.TestCase):
    READ, WRITE, IN, OUT = ("read", 1), ("write", 1, 2), ("in", 0), ("out", 0, 3)
    DONE, STOPPED = (None, 1, 0, (0,)), (12, 0, 0, (0,))

    def test_done(self):
        for ask in (self.READ, self.WRITE, self.IN, self.OUT):
            self.assertIs(whole((ask,), (0,), self.DONE), True)
            self.assertIs(whole((ask, self.READ), (0, 5), self.DONE), True)

    def test_stopped_behind_an_effect(self):
        for ask in (self.WRITE, self.IN, self.OUT):
            for answer in (0, 7):
                self.assertIs(whole((ask,), (answer,), self.STOPPED), False)
                self.assertIs(whole((self.READ, ask, self.READ), (3, answer, None), self.STOPPED), False)
                self.assertIs(whole([self.READ, ask, self.READ], [3, answer], (10, 0, 0, (0,))), False)

    def test_stopped_at_an_effect(self):
        for ask in (self.WRITE, self.IN, self.OUT):
            self.assertIs(whole((self.READ, ask), (3, None), self.STOPPED), True)
            self.assertIs(whole((self.READ, ask), (3,), self.STOPPED), True)
            self.assertIs(whole((ask,), (), self.STOPPED), True)

    def test_stopped_without_an_effect(self):
        self.assertIs(whole((), (), self.STOPPED), True)
        self.assertIs(whole((self.READ, self.READ), (3, 0), self.STOPPED), True)
        self.assertIs(whole((self.READ,), (None,), self.STOPPED), True)


class Drawn(unittest.TestCase):
    """Runs of drawn instructions against the same runs reckoned apart from the package."""

    def test_runs(self):
        rng = random.Random(49)
        causes, counts = set(), set()
        for number in range(400):
            word = (4, 4, 8)[number % 3]
            book = drawn_book(rng, word, rng.choice((1, 2, 4)), 2, lines=12)
            for form in book.forms:
                numbers = tuple(rng.randrange(2 ** bits) for _, bits in form.letters)
                place = rng.choice((0, 2 ** word - 1, rng.randrange(2 ** word)))
                regs = tuple(rng.choice((0, 1, rng.randrange(2 ** word))) for _ in range(book.registers))
                answers = [rng.choice((0, 1, rng.randrange(2 ** word))) for _ in range(rng.choice((0, 1, 2, 12)))]
                if answers and rng.random() < 0.3:
                    answers[rng.randrange(len(answers))] = None
                asks, handed = run_lines(book, form, numbers, place, regs, answers)
                self.assertEqual(run_code(book, (form.name, numbers), place, regs, answers), (asks, handed))
                self.assertEqual(whole(asks, answers, handed), is_whole(asks, answers, handed))
                causes.add(handed[0])
                counts.add(len(asks))
        self.assertEqual(causes, {None, 10, 11, 12, 13, 14, 15})
        self.assertLessEqual({0, 1, 2, 3}, counts)

    def test_what_follows(self):
        """[50]: at most one effect; place and registers of the beginning; 1 done if nothing stopped the run."""
        rng = random.Random(50)
        for _ in range(80):
            book = drawn_book(rng, 4, 2, 1, lines=6)
            form = book.forms[0]
            numbers = rng.choice(numbers_of(form))
            if len([line for line in form.lines if line[0] in ("read", "in")]) > 2:
                continue
            for asks, answers, _ in list(all_runs(book, form, numbers, 6, (1, 0)))[:600]:
                told, handed = run_code(book, (form.name, numbers), 6, (1, 0), answers)
                self.assertEqual(told, asks)
                self.assertLessEqual(len([ask for ask in asks if ask[0] in ("write", "in", "out")]), 1)
                self.assertLessEqual(len(asks), len(form.lines))
                if handed[1] == 0:
                    self.assertEqual(handed[2:], (6, (1, 0)))
                no = None in answers
                self.assertEqual(handed[1] == 1, not no and handed[0] is None)
                self.assertEqual(handed[0] in (12, 13, 14, 15), handed[1] == 0 and not no)


if __name__ == "__main__":
    unittest.main()

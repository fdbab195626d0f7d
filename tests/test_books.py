"""Guest books ([31] to [33], [36])."""

import unittest

from helpers import WRONG_NUMBERS, WRONG_ROWS, refusal
from selfwritten.books import Book, Form

NOP = ("nop", ("0000",), ())


def lined(*lines, word=4, registers=2, patterns=("0abm", "nnn0")):
    """What is said of a book whose second form has these lines."""
    return refusal(Book, word, registers, [("first", ("1" * word,), ()), ("form", patterns, lines)])


class Made(unittest.TestCase):
    def test_attributes(self):
        lines = [["get", "a"], ("num", "n"), ["in", 0], ("put", "b", 1), ("goto", 2)]
        book = Book(4, 2, [NOP, ["odd", ["0a1b", "nnnn"], lines]])
        self.assertEqual((book.word, book.registers, type(book.forms)), (4, 2, tuple))
        first, second = book.forms
        self.assertIsInstance(second, Form)
        told = (first.name, first.patterns, first.lines, first.size, first.letters, first.effect, first.goto)
        self.assertEqual(told, ("nop", ("0000",), (), 1, (), None, None))
        self.assertEqual((second.name, second.patterns), ("odd", ("0a1b", "nnnn")))
        wanted = (("get", "a"), ("num", "n"), ("in", 0), ("put", "b", 1), ("goto", 2))
        self.assertEqual(second.lines, wanted)
        told = (second.size, second.letters, second.effect, second.goto)
        self.assertEqual(told, (2, (("a", 1), ("b", 1), ("n", 4)), 2, 4))

    def test_effects(self):
        get = ("get", 0)
        for line in (("write", 0, 0), ("in", 5), ("out", 9, 0)):
            book = Book(4, 1, [("one", ("0001",), [get, line]), ("two", ("0010",), [get, get, line])])
            self.assertEqual([form.effect for form in book.forms], [1, 2])
        book = Book(4, 1, [("one", ("0001",), [get, ("read", 0), ("must", 0, 12)])])
        self.assertEqual([book.forms[0].effect, book.forms[0].goto], [None, None])

    def test_own_copies(self):
        line = ["get", 0]
        lines, patterns = [line], ["0001"]
        forms = [["one", patterns, lines]]
        book = Book(4, 1, forms)
        text = book.text()
        line[1] = 9
        lines.append(3)
        patterns[0] = "1111"
        forms[0][0] = "two"
        forms.append(5)
        self.assertEqual((book.text(), book.forms[0].lines), (text, (("get", 0),)))
        self.assertEqual(book.forms[0].patterns, ("0001",))
        self.assertEqual(book.form_named("one").size, 1)

    def test_arguments_are_not_changed(self):
        forms = [["one", ["0001"], [["get", 0]]]]
        Book(4, 1, forms)
        self.assertEqual(forms, [["one", ["0001"], [["get", 0]]]])

    def test_form_named(self):
        book = Book(4, 1, [NOP, ("two", ("0001",), ())])
        self.assertIs(book.form_named("two"), book.forms[1])
        for name in ("", "three", "NOP", None, 0, True, ["nop"], ("nop",), {}):
            self.assertEqual(refusal(book.form_named, name), ("BadSource", 0), name)

    def test_equal(self):
        forms = [("one", ("0001",), [("get", 0)])]
        book = Book(4, 1, forms)
        self.assertTrue(book == Book(4, 1, [["one", ["0001"], [["get", 0]]]]))
        self.assertFalse(book != Book(4, 1, forms))
        others = (
            Book(4, 2, forms),
            Book(4, 1, forms + [NOP]),
            Book(4, 1, [("two", ("0001",), [("get", 0)])]),
            Book(4, 1, [("one", ("0010",), [("get", 0)])]),
            Book(4, 1, [("one", ("0001",), [("num", 0)])]),
            Book(4, 1, [("one", ("0001",), ())]),
            book.text(), None, 0,
        )
        for other in others:
            self.assertFalse(book == other)
            self.assertTrue(book != other)

    def test_order_of_forms_counts(self):
        one, two = ("one", ("0001",), ()), ("two", ("0010",), ())
        self.assertFalse(Book(4, 1, [one, two]) == Book(4, 1, [two, one]))


class Arguments(unittest.TestCase):
    def test_word(self):
        for word in range(4, 9):
            self.assertEqual(Book(word, 1, [("nop", ("0" * word,), ())]).word, word)
        for word in (3, 9, -1, *WRONG_NUMBERS):
            self.assertEqual(refusal(Book, word, 9, None), ("BadNumber", "word"), word)

    def test_registers(self):
        for registers in range(1, 5):
            self.assertEqual(Book(4, registers, [NOP]).registers, registers)
        for registers in (0, 5, -1, *WRONG_NUMBERS):
            self.assertEqual(refusal(Book, 4, registers, None), ("BadNumber", "registers"), registers)

    def test_forms(self):
        for forms in (*WRONG_ROWS, [], ()):
            self.assertEqual(refusal(Book, 4, 1, forms), ("BadBook", "", -1), forms)

    def test_1_and_32_forms_and_one_more(self):
        forms = [("f" + "ab"[k // 26] + chr(97 + k % 26), (format(k, "08b"),), ()) for k in range(33)]
        self.assertEqual(len(Book(8, 1, forms[:32]).forms), 32)
        self.assertEqual(len(Book(8, 1, forms[:1]).forms), 1)
        self.assertEqual(refusal(Book, 8, 1, forms), ("BadBook", "", -1))

    def test_names(self):
        for name in ("a", "abcdefgh", "form", "z"):
            self.assertEqual(Book(4, 1, [(name, ("0000",), ())]).forms[0].name, name)
        for name in ("", "abcdefghi", "Add", "a1", "a b", "a_b", "\u00e4dd", "a\n", 3, None, True, ("a",), ["a"]):
            told = refusal(Book, 4, 1, [NOP, (name, ("0001",), ())])
            self.assertEqual(told, ("BadBook", name, -1), name)
            # The name is looked at ahead of what stands behind it.
            told = refusal(Book, 4, 1, [NOP, (name, None, None)])
            self.assertEqual(told, ("BadBook", name, -1), name)

    def test_equal_names(self):
        forms = [NOP, ("two", ("0001",), ()), ("nop", ("0010",), ())]
        self.assertEqual(refusal(Book, 4, 1, forms), ("BadBook", "nop", -1))

    def test_entries_of_forms(self):
        for entry in (None, 5, "abc", ("nop", ("0000",)), ("nop", ("0000",), (), ()), ()):
            told = refusal(Book, 4, 1, [("two", ("0001",), ()), entry])
            self.assertEqual(told, ("BadBook", "", -1), entry)

    def test_patterns(self):
        for many in (1, 2, 3):
            self.assertEqual(Book(4, 1, [("one", ("0000",) * many, ())]).forms[0].size, many)
        wrong = (*WRONG_ROWS, (), ("0000",) * 4, "0000", ("000",), ("00000",), ("0000", "000"), ("000x",),
                 ("000d",), ("000 ",), ("000A",), ("",), (None,), (0,), (("0", "0", "0", "0"),), (b"0000",))
        for patterns in wrong:
            for lines in ((), None):
                told = refusal(Book, 4, 4, [NOP, ("one", patterns, lines)])
                self.assertEqual(told, ("BadBook", "one", -1), patterns)

    def test_pattern_signs(self):
        self.assertEqual(Book(8, 4, [("one", ("01aabbcc", "mmmmnnnn"), ())]).forms[0].size, 2)

    def test_bits_of_register_letters(self):
        # For each number of registers the most bits that a letter may have.
        most = {1: 0, 2: 1, 3: 1, 4: 2}
        for registers, bits in most.items():
            for letter in "abc":
                for many in range(4):
                    forms = [("one", ("1" + letter * many + "0" * (3 - many),), ())]
                    told = refusal(Book, 4, registers, forms)
                    self.assertEqual(told, None if many <= bits else ("BadBook", "one", -1))

    def test_bits_count_over_all_patterns(self):
        self.assertIsNone(refusal(Book, 4, 4, [("one", ("a000", "000a"), ())]))
        told = refusal(Book, 4, 4, [("one", ("a000", "000a", "0a00"), ())])
        self.assertEqual(told, ("BadBook", "one", -1))

    def test_bits_of_number_letters(self):
        for word in (4, 8):
            full = "n" * word
            rest = "0" * (word - 1)
            self.assertIsNone(refusal(Book, word, 1, [("one", (full, "m" * word), ())]))
            told = refusal(Book, word, 1, [("one", (full, "n" + rest), ())])
            self.assertEqual(told, ("BadBook", "one", -1))
            told = refusal(Book, word, 1, [("one", ("m" + rest, "m" * word), ())])
            self.assertEqual(told, ("BadBook", "one", -1))

    def test_0_and_12_lines_and_one_more(self):
        get = ("get", 0)
        for many in (0, 12):
            self.assertEqual(len(Book(4, 1, [("one", ("0000",), [get] * many)]).forms[0].lines), many)
        self.assertEqual(lined(*[get] * 13), ("BadBook", "form", -1))
        self.assertEqual(lined(*[None] * 13), ("BadBook", "form", -1))

    def test_lines_are_a_row(self):
        for lines in WRONG_ROWS:
            told = refusal(Book, 4, 1, [NOP, ("one", ("0001",), lines)])
            self.assertEqual(told, ("BadBook", "one", -1), lines)

    def test_form_by_form(self):
        forms = [("one", ("0001",), [("get", 0), ("get", 9)]), ("TWO", None, None)]
        self.assertEqual(refusal(Book, 4, 1, forms), ("BadBook", "one", 1))
        self.assertEqual(refusal(Book, 4, 1, forms[::-1]), ("BadBook", "TWO", -1))

    def test_two_wrong_arguments(self):
        self.assertEqual(refusal(Book, 3, 0, None), ("BadNumber", "word"))
        self.assertEqual(refusal(Book, 4, 0, None), ("BadNumber", "registers"))
        self.assertEqual(refusal(Book, 4, 1, [("one", None, None)]), ("BadBook", "one", -1))


class Lines(unittest.TestCase):
    """The form of these tests has the letters a, b, m and n; there are 2 registers."""

    GET = ("get", 0)

    def good(self, line, ahead=(GET, GET), **more):
        self.assertIsNone(lined(*ahead, line, **more), line)

    def wrong(self, line, ahead=(GET, GET), **more):
        self.assertEqual(lined(*ahead, line, **more), ("BadBook", "form", len(ahead)), line)

    def test_every_kind(self):
        lines = (("get", 1), ("num", 3), ("here",), ("next",), ("add", 0, 1), ("sub", 0, 1), ("and", 1, 0),
                 ("or", 0, 0), ("xor", 1, 1), ("less", 0, 1), ("same", 0, 1), ("read", 1), ("in", 5),
                 ("must", 0, 12), ("write", 0, 1), ("out", 9, 1), ("put", 1, 0), ("goto", 1))
        for line in lines:
            self.good(line)
            self.good(list(line))
            self.wrong(line + (0,))
            self.wrong(line[:-1])

    def test_no_line(self):
        for line in (None, 0, "here", (), [], {"here": 1}, (None,), (0,), (("here",),), (["here"],), ({},),
                     ("",), ("HERE",), ("nand", 0, 1), ("form",), ("label",), ("must",), (b"here",)):
            self.wrong(line)

    def test_registers(self):
        for name, rest in (("get", ()), ("put", (0,))):
            for register in ("a", "b", 0, 1):
                self.good((name, register, *rest))
            for register in ("c", "m", "n", "", "ab", "0", 2, -1, *WRONG_NUMBERS):
                self.wrong((name, register, *rest))
        self.good(("get", 3), registers=4, patterns=("000a",))
        self.wrong(("get", 4), registers=4, patterns=("000a",))
        self.wrong(("get", "b"), registers=4, patterns=("000a",))
        self.wrong(("get", 1), registers=1, patterns=("0000",))

    def test_words(self):
        for word in ("m", "n", 0, 15):
            self.good(("num", word))
        for word in ("a", "b", "c", "", "mn", "3", 16, -1, *WRONG_NUMBERS):
            self.wrong(("num", word))
        self.good(("num", 255), ahead=(), word=8, patterns=("0000000m",))
        self.wrong(("num", 256), ahead=(), word=8, patterns=("0000000m",))
        self.wrong(("num", "n"), ahead=(), word=8, patterns=("0000000m",))

    def test_operands_are_value_lines_ahead(self):
        get = self.GET
        ahead = (get, ("put", 0, 0), ("must", 0, 12), ("num", 3), ("goto", 0), ("read", 0))
        for made in (("add", 0, 3), ("less", 5, 5), ("read", 3), ("must", 5, 15), ("write", 3, 0),
                     ("out", 0, 5), ("put", 0, 5)):
            self.good(made, ahead=ahead)
        for number in (1, 2, 4, 6, 7, -1, "a", "m", *WRONG_NUMBERS):
            for name in ("add", "sub", "and", "or", "xor", "less", "same", "write"):
                self.wrong((name, number, 0), ahead=ahead)
                self.wrong((name, 0, number), ahead=ahead)
            self.wrong(("read", number), ahead=ahead)
            self.wrong(("must", number, 12), ahead=ahead)
            self.wrong(("out", 0, number), ahead=ahead)
            self.wrong(("put", 0, number), ahead=ahead)
            self.wrong(("goto", number), ahead=(get, ("put", 0, 0), ("must", 0, 12), get, ("put", 1, 0), get))

    def test_which_lines_are_value_lines(self):
        values = (("get", 0), ("num", 3), ("here",), ("next",), ("add", 0, 0), ("sub", 0, 0), ("and", 0, 0),
                  ("or", 0, 0), ("xor", 0, 0), ("less", 0, 0), ("same", 0, 0), ("read", 0), ("in", 0))
        for line in values:
            self.good(("put", 0, 1), ahead=(self.GET, line))
        others = (("must", 0, 12), ("write", 0, 0), ("out", 0, 0), ("put", 0, 0), ("goto", 0))
        for line in others:
            self.wrong(("put", 0, 1), ahead=(self.GET, line))

    def test_ports_and_causes(self):
        for name, most in (("in", 5), ("out", 9)):
            rest = () if name == "in" else (0,)
            for port in range(most + 1):
                self.good((name, port, *rest))
            for port in (-1, most + 1, "m", "a", *WRONG_NUMBERS):
                self.wrong((name, port, *rest))
        for cause in range(12, 16):
            self.good(("must", 0, cause))
        for cause in (11, 16, -1, 0, "m", *WRONG_NUMBERS):
            self.wrong(("must", 0, cause))

    def test_second_effect(self):
        effects = (("write", 0, 0), ("in", 0), ("out", 0, 0))
        for one in effects:
            for other in effects:
                self.wrong(other, ahead=(self.GET, one, self.GET))
        self.assertEqual(lined(self.GET, ("in", 0), ("in", 0), ("in", 9)), ("BadBook", "form", 2))

    def test_second_goto(self):
        self.wrong(("goto", 0), ahead=(self.GET, ("goto", 0), ("in", 0)))
        self.good(("goto", 0), ahead=(self.GET, ("in", 0)))

    def test_first_wrong_line(self):
        self.assertEqual(lined(self.GET, ("get", 7), ("get", 8)), ("BadBook", "form", 1))
        self.assertEqual(lined(("goto", 0), self.GET), ("BadBook", "form", 0))


if __name__ == "__main__":
    unittest.main()

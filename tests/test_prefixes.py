"""Prefix texts of parts ([13])."""

import random
import unittest

from helpers import WRONG_ROWS, part_of, refusal, rows_below, term, tokens_of, word_of
from selfwritten.pools import Pool
from selfwritten.prefixes import part_of_words, part_text


def letters_of(pool, many):
    return {f"g{i}": pool.unknown(i) for i in range(many)}


class Written(unittest.TestCase):
    def test_leaves(self):
        pool = Pool(12)
        self.assertEqual(part_text(pool, pool.num(0)), "0")
        self.assertEqual(part_text(pool, pool.num(4095)), "4095")
        self.assertEqual(part_text(pool, pool.unknown(63)), "g63")

    def test_operands_behind_the_name(self):
        pool = Pool(4)
        x, y = pool.unknown(0), pool.unknown(1)
        inner = pool.apply("less", y, x)
        self.assertEqual(part_text(pool, pool.apply("sub", pool.num(9), inner)), "sub 9 less g1 g0")

    def test_no_part(self):
        pool = Pool(4)
        pool.num(1)
        for number in (-1, 1, True, None, "0"):
            self.assertEqual(refusal(part_text, pool, number), ("BadPart",), number)

    def test_400_tokens_and_one_more(self):
        pool = Pool(4)
        x, y = pool.unknown(0), pool.unknown(1)
        part = pool.apply("add", x, y)
        # 199 more operations, each with one more operand: 3 + 2 * 198 = 399 tokens, then 401.
        for _ in range(198):
            part = pool.apply("sub", y, part)
        self.assertEqual(len(part_text(pool, part).split(" ")), 399)
        self.assertEqual(refusal(part_text, pool, pool.apply("sub", y, part)), ("TooMany", "words"))

    def test_very_long_texts(self):
        pool = Pool(4)
        part = pool.unknown(0)
        for _ in range(500):
            part = pool.apply("add", part, part)
        self.assertEqual(refusal(part_text, pool, part), ("TooMany", "words"))

    def test_there_and_back(self):
        rng = random.Random(21)
        for width in (1, 4, 12):
            pool = Pool(width)
            letters = letters_of(pool, 3)
            for _ in range(60):
                part = part_of(pool, term(rng, 4, 3, width))
                tokens = part_text(pool, part).split(" ")
                many = len(pool)
                self.assertEqual((part_of_words(pool, tokens, letters), len(pool)), (part, many))


class Read(unittest.TestCase):
    def test_parts_are_made_from_left_to_right(self):
        pool = Pool(4)
        letters = {"a": pool.unknown(0), "b": pool.unknown(1)}
        words = ("xor", "sub", "7", "a", "less", "3", "b")
        self.assertEqual(part_of_words(pool, words, letters), 6)
        made = [("num", 7), ("sub", 2, 0), ("num", 3), ("less", 4, 1), ("xor", 3, 5)]
        self.assertEqual(list(pool)[2:], made)

    def test_an_operation_is_made_as_soon_as_its_second_operand(self):
        pool = Pool(4)
        letters = letters_of(pool, 2)
        part_of_words(pool, "add add add g0 5 6 7".split(), letters)
        made = [("num", 5), ("add", 0, 2), ("num", 6), ("add", 3, 4), ("num", 7), ("add", 5, 6)]
        self.assertEqual(list(pool)[2:], made)

    def test_words_of_what_is_read(self):
        rng = random.Random(22)
        for _ in range(100):
            pool = Pool(2)
            tree = term(rng, 4, 2, 2)
            part = part_of_words(pool, tokens_of(tree), letters_of(pool, 2))
            for words in rows_below([2, 2]):
                self.assertEqual(pool.value(part, words), word_of(tree, words, 2))

    def test_one_token(self):
        pool = Pool(4)
        self.assertEqual(part_of_words(pool, ["15"], {}), 0)
        self.assertEqual(part_of_words(pool, ["a"], {"a": 0}), 0)

    def test_operations_then_numbers_then_letters(self):
        pool = Pool(4)
        a = pool.unknown(0)
        letters = {"add": a, "3": a, "16": a, "03": a, "": a, "x y": a}
        self.assertEqual(pool.part(part_of_words(pool, ["3"], letters)), ("num", 3))
        self.assertEqual(refusal(part_of_words, pool, ["add"], letters), ("BadWords", 1))
        for token in ("16", "03", "", "x y"):
            self.assertEqual(part_of_words(pool, [token], letters), a, token)

    def test_no_row(self):
        for words in WRONG_ROWS:
            self.assertEqual(refusal(part_of_words, Pool(4), words, {}), ("BadWords", -1), words)

    def test_wrong_tokens(self):
        wrong = ("16", "-1", "+1", "01", "00", " 1", "1 ", "", "1.0", "b", "ADD", "get", "1_0", "9" * 5000)
        for token in wrong + ("\u0663", "\u00b2", 3, 3.0, True, None, b"3", ("3",), ["3"]):
            pool = Pool(4)
            words = ["add", "a", token]
            self.assertEqual(refusal(part_of_words, pool, words, {"a": 0}), ("BadWords", 2), token)
            self.assertEqual(len(pool), 0)

    def test_missing_tokens(self):
        for words in ([], ["add"], ["add", "1"], ["add", "sub", "1", "2"]):
            self.assertEqual(refusal(part_of_words, Pool(4), words, {}), ("BadWords", len(words)))

    def test_behind_a_complete_part(self):
        for words, at in ((["1", "2"], 1), (["add", "1", "2", "no"], 3), (["add", "1", "2", "add"], 3)):
            self.assertEqual(refusal(part_of_words, Pool(4), words, {}), ("BadWords", at))

    def test_tokens_are_checked_before_a_part_is_made(self):
        pool = Pool(4)
        self.assertEqual(refusal(part_of_words, pool, ["add", "1", "2", "3"], {}), ("BadWords", 3))
        self.assertEqual(refusal(part_of_words, pool, ["add", "1"], {}), ("BadWords", 2))
        self.assertEqual(len(pool), 0)

    def test_long_rows(self):
        pool = Pool(4)
        words = ["sub"] * 1999 + ["g0"] + ["1"] * 1999
        part = part_of_words(pool, words, letters_of(pool, 1))
        self.assertEqual(pool.value(part, [0]), -1999 % 16)


if __name__ == "__main__":
    unittest.main()

"""What orders leave ([92])."""

import random
import unittest

from helpers import OPS, refusal, term, tokens_of
from housing import ORDERS, house_of, told_term
from selfwritten.houses import House
from selfwritten.orders import order_part, order_word
from selfwritten.pools import Pool
from selfwritten.prefixes import part_of_words


def drawn_order(rng, width, letters):
    """The tokens of a term over these letters, of at most 31 tokens."""
    while True:
        tree = term(rng, rng.randrange(5), len(letters), width)
        tokens = [letters[int(token[1:])] if token[0] == "g" else token for token in tokens_of(tree)]
        if len(tokens) <= 31:
            return tokens


class Orders(unittest.TestCase):
    def test_each_operation(self):
        house = house_of(4, 6)
        for name, op in zip(("plus", "minus", "both", "either", "apart", "below", "alike"), OPS):
            for x, y in ((5, 9), (9, 5), (63, 63), (63, 1), (0, 0), (0, 63)):
                wanted = told_term([op, "x", "y"], {"x": x, "y": y}, 6)[0]
                self.assertEqual(order_word(house, name, 0, x, y, 0), wanted)
        self.assertEqual(order_word(house, "fill", 1, 2, 3, 44), 44)
        self.assertEqual(order_word(house, "mask", 1, 61, 3, 7), 5)

    def test_d_is_the_word_ahead_of_the_order(self):
        house = House(4, 3, [("step", "d", ("add", "d", "7")), ("add", "dx", ("sub", "x", "d"))], [])
        self.assertEqual([order_word(house, "step", d, 0, 0, 0) for d in (0, 8, 9, 15)], [7, 15, 0, 6])
        self.assertEqual(order_word(house, "add", 3, 1, 0, 0), 14)

    def test_words_for_other_letters_are_not_looked_at(self):
        house = house_of(4, 4)
        pool = Pool(4)
        x, y = pool.unknown(0), pool.unknown(1)
        self.assertEqual(order_word(house, "plus", None, 3, 4, None), 7)
        self.assertEqual(order_word(house, "fill", None, None, "x", 4), 4)
        self.assertEqual(pool.part(order_part(pool, house, "plus", x, x, y, None)), ("add", 0, 1))
        self.assertEqual(order_part(pool, house, "fill", x, None, -1, y), y)

    def test_drawn_terms(self):
        rng = random.Random(92)
        longest = 0
        for number in range(150):
            width = (4, 7, 12)[number % 3]
            letters = ("d", "dx", "dy", "dn", "dxy", "dxn", "dyn", "dxyn")[number % 8]
            tokens = drawn_order(rng, width, letters)
            longest = max(longest, len(tokens))
            house = House(width, 3, [("one", letters, tokens)], [])
            pool, twin = Pool(width), Pool(width)
            parts = [pool.unknown(at) for at in range(4)]
            twins = [twin.unknown(at) for at in range(4)]
            part = order_part(pool, house, "one", *parts)
            told = dict(zip("dxyn", twins))
            self.assertEqual(part, part_of_words(twin, tokens, {letter: told[letter] for letter in letters}))
            self.assertEqual(list(pool), list(twin))
            for _ in range(10):
                words = [rng.randrange(2 ** width) for _ in range(4)]
                wanted = told_term(tokens, dict(zip("dxyn", words)), width)[0]
                self.assertEqual(order_word(house, "one", *words), wanted)
                self.assertEqual(pool.value(part, words), wanted)
        self.assertGreater(longest, 24)

    def test_the_most_tokens(self):
        tokens = ["add"] * 15 + ["x"] * 16
        house = House(12, 3, [("one", "dx", tokens)], [])
        self.assertEqual(order_word(house, "one", 0, 300, 0, 0), 4800 % 4096)

    def test_no_such_order(self):
        house = House(4, 3, ORDERS[:1], [])
        pool = Pool(4)
        for name in ("minus", "", "d", "Plus", None, 3, ("plus",), ["plus"]):
            self.assertEqual(refusal(order_word, house, name, 0, 0, 0, 0), ("BadHouse", "order", -1))
            self.assertEqual(refusal(order_part, pool, house, name, 0, 0, 0, 0), ("BadHouse", "order", -1))
        self.assertEqual(len(pool), 0)


if __name__ == "__main__":
    unittest.main()

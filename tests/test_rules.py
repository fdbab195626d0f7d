"""Rules: what they leave, and when they are right ([94])."""

import itertools
import random
import unittest

from helpers import OPS, WRONG_NUMBERS, WRONG_ROWS, operation, refusal
from housing import MASK, ORDERS, WAYS, drawn_house, house_of, most_named, rule_of, told_rule
from selfwritten.houses import House
from selfwritten.pools import Pool
from selfwritten.rules import check_rules, rule_left, rule_part, wrong_words


def drawn_rule(rng, op, registers, rows):
    """A rule of drawn rows over the orders of the tests."""
    places = ["d", "u", "v"][:max(1, registers - 2)]
    words = places + ([] if op == "num" else ["x", "y"])
    lines = []
    for _ in range(rows):
        name, letters, _ = rng.choice(ORDERS)
        line = [name, rng.choice(places)]
        for letter in letters[1:]:
            numbers = ["ones", "0", "1", str(rng.randrange(16))] + ["n"] * 2 * (op == "num")
            line.append(rng.choice(words if letter in "xy" else numbers))
        lines.append(tuple(line))
    return (op, lines)


class Left(unittest.TestCase):
    def test_rows_follow_one_another(self):
        house = House(6, 5, ORDERS, [("add", [("plus", "u", "x", "y"), ("flip", "v", "u", "1"), ("minus", "d", "u", "v")]),
                                     ("num", [("more", "d", "d", "n"), ("mask", "d", "d", "ones")])])
        add, num = house.rules
        self.assertEqual(rule_left(house, 4, add, [9, 12, 0, 0, 0]), 1)
        self.assertEqual(rule_left(house, 4, add, (8, 12, 0, 0, 0)), 63)
        self.assertEqual([rule_left(house, word, num, (40, 30, 0, 0)) for word in (1, 4, 6)], [0, 6, 6])
        self.assertEqual([rule_left(house, word, num, (5, 58, 0, 0)) for word in (1, 4, 6)], [1, 15, 63])

    def test_the_words_ahead_of_the_rule(self):
        house = House(4, 5, ORDERS, [("add", [("plus", "d", "d", "u"), ("plus", "d", "d", "v")])])
        self.assertEqual(rule_left(house, 4, house.rules[0], (0, 0, 1, 2, 4)), 7)

    def test_drawn_rules(self):
        rng = random.Random(94)
        for number in range(250):
            width, registers = rng.choice((4, 6, 12)), 3 + number % 6
            op = rng.choice((*OPS, "num"))
            house = House(width, registers, ORDERS, [drawn_rule(rng, op, registers, rng.choice((1, 2, 5, 40)))])
            rule, word = house.rules[0], rng.randrange(1, width + 1)
            pool = Pool(width)
            many = 4 if op == "num" else 5
            part = rule_part(pool, house, word, rule, [pool.unknown(at) for at in range(many)])
            for _ in range(6):
                words = [rng.randrange(2 ** width) for _ in range(many)]
                wanted = told_rule(house, word, rule, words)
                self.assertEqual(rule_left(house, word, rule, words), wanted)
                self.assertEqual(pool.value(part, words), wanted)

    def test_the_order_in_which_parts_are_made(self):
        house = House(6, 3, ORDERS, [("add", [("plus", "d", "x", "y"), ("mask", "d", "d", "ones")]),
                                     ("num", [("fill", "d", "5"), ("more", "d", "d", "n"), ("flip", "d", "d", "9")])])
        pool = Pool(6)
        parts = [pool.unknown(at) for at in range(5)]
        self.assertEqual(rule_part(pool, house, 4, house.rules[0], parts), 7)
        self.assertEqual(list(pool)[5:], [("add", 0, 1), ("num", 15), ("and", 5, 6)])
        self.assertEqual(rule_part(pool, house, 4, house.rules[1], tuple(parts[:4])), 11)
        self.assertEqual(list(pool)[8:], [("num", 5), ("add", 0, 8), ("num", 9), ("xor", 9, 10)])

    def test_refused(self):
        house = house_of(4, 6)
        add, num = house.rules[0], house.rules[-1]
        for word in (0, 7, -1, *WRONG_NUMBERS):
            for call in (rule_left, rule_part):
                args = (house, word, add, None) if call is rule_left else (Pool(6), house, word, add, None)
                self.assertEqual(refusal(call, *args), ("BadNumber", "word"))
            self.assertEqual(refusal(wrong_words, house, word, add), ("BadNumber", "word"))
            self.assertEqual(refusal(check_rules, house, word), ("BadNumber", "word"))
        for words in (*WRONG_ROWS, (), (0,) * 4, (0,) * 6):
            self.assertEqual(refusal(rule_left, house, 4, add, words), ("BadWords", -1))
        for words in ((0,) * 3, (0,) * 5):
            self.assertEqual(refusal(rule_left, house, 4, num, words), ("BadWords", -1))
        for at in range(5):
            for word in (64, -1, *WRONG_NUMBERS):
                words = [0] * 5
                words[at] = word
                self.assertEqual(refusal(rule_left, house, 4, add, words), ("BadWords", at))
        self.assertEqual(rule_left(house, 4, add, (63, 63, 63, 63, 63)), 14)


class Right(unittest.TestCase):
    def tried(self, house, word, rule):
        """Whether the rule is right, all words tried one by one."""
        op, rows = rule
        named = {operand for row in rows for operand in row[1:]}
        below = [range(2 ** word)] * (1 if op == "num" else 2)
        held = [range(2 ** house.width) if name in named else (0,) for name in "duv"]
        for words in itertools.product(*below, *held):
            wanted = words[0] if op == "num" else operation(op, *words[:2], word)
            if told_rule(house, word, rule, words) != wanted:
                return False
        return True

    def check(self, house, word, rule, right):
        words = wrong_words(house, word, rule)
        self.assertEqual(words is None, right, rule)
        if words is not None:
            self.assertIsInstance(words, tuple)
            many = 1 if rule[0] == "num" else 2
            self.assertEqual(len(words), many + 3)
            self.assertTrue(all(one < 2 ** word for one in words[:many]))
            self.assertTrue(all(0 <= one < 2 ** house.width for one in words))
            wanted = words[0] if many == 1 else operation(rule[0], *words[:2], word)
            self.assertNotEqual(told_rule(house, word, rule, words), wanted)
        return words

    def test_all_words_tried(self):
        rng = random.Random(940)
        right = 0
        for number in range(300):
            op = (*OPS, "num")[number % 8]
            if number % 2:
                way = rng.choice([way for way in WAYS[op] if most_named(way) == 3])
                rows = list(way) + ([MASK] if op in ("add", "sub") and rng.random() < 0.7 else [])
                if rng.random() < 0.5:
                    row = list(rng.choice(rows))
                    row[-1] = {"x": "y", "y": "x", "ones": "1", "n": "ones"}.get(row[-1], row[-1])
                    rows[rng.randrange(len(rows))] = tuple(row)
            else:
                rows = drawn_rule(rng, op, 3, rng.randrange(1, 4))[1]
            house = House(4, 3, ORDERS, [(op, rows)])
            word = rng.randrange(1, 4 if number % 5 else 5)
            told = self.tried(house, word, house.rules[0])
            right += told
            self.check(house, word, house.rules[0], told)
        self.assertGreater(right, 40)

    def test_u_and_v(self):
        house = House(4, 5, ORDERS, [rule_of("add", 2, 2, 4), ("add", [("plus", "u", "u", "x"), ("plus", "d", "u", "y"), MASK])])
        self.assertTrue(self.tried(house, 2, house.rules[0]))
        self.check(house, 2, house.rules[0], True)
        self.check(house, 2, house.rules[1], False)

    def test_right_rules_at_every_width(self):
        rng = random.Random(941)
        for word in range(4, 9):
            for width in (word, 12):
                for registers in (3, 5, 8):
                    house = drawn_house(rng, word, width, registers)
                    self.assertIsNone(check_rules(house, word))
                    for rule in house.rules:
                        self.assertIsNone(wrong_words(house, word, rule))

    def test_a_missing_mask(self):
        for op in ("add", "sub"):
            house = House(6, 3, ORDERS, [(op, WAYS[op][0])])
            self.check(house, 4, house.rules[0], False)
            self.check(house, 6, house.rules[0], True)

    def test_a_rule_that_goes_wrong_at_one_row_of_words(self):
        # d is -1 where x and y are both 9, and otherwise 0.
        rows = [("flip", "u", "x", "9"), ("flip", "d", "y", "9"), ("either", "d", "d", "u"), ("equal", "d", "d", "0"),
                ("plus", "u", "x", "y"), ("apart", "d", "d", "u")]
        house = House(8, 4, ORDERS, [("add", rows)])
        words = self.check(house, 8, house.rules[0], False)
        self.assertEqual(words[:2], (9, 9))

    def test_what_d_held_may_not_be_left(self):
        house = House(4, 3, ORDERS, [("num", [("more", "d", "d", "n")]), ("num", [("fill", "d", "n")]),
                                     ("same", [("alike", "d", "x", "y"), ("plus", "d", "d", "d")])])
        self.check(house, 4, house.rules[0], False)
        self.check(house, 4, house.rules[1], True)
        self.check(house, 1, house.rules[2], False)

    def test_num_of_a_width_below(self):
        house = House(6, 3, ORDERS, [("num", [("fill", "d", "n"), MASK])])
        for word in range(1, 7):
            self.assertIsNone(wrong_words(house, word, house.rules[0]))

    def test_lesser_widths(self):
        rng = random.Random(942)
        kept = 0
        for number in range(60):
            op = ("add", "sub", "and", "or", "xor")[number % 5]
            width = rng.choice((5, 8, 12))
            way = rng.choice(WAYS[op]) if number % 2 else drawn_rule(rng, op, 5, 2)[1]
            orders = [order for order in ORDERS if order[0] not in ("below", "alike", "equal")]
            if any(row[0] in ("below", "alike", "equal") for row in way):
                continue
            house = House(width, 5, orders, [(op, way)])
            if wrong_words(house, width, house.rules[0]) is not None:
                continue
            kept += 1
            for less in range(4, width):
                rows = [[str(int(token) % 2 ** less) if token.isdigit() else token for token in row] for row in way]
                small = House(less, 5, orders, [(op, rows)])
                self.assertIsNone(wrong_words(small, less, small.rules[0]))
        self.assertGreater(kept, 20)

    def test_too_many(self):
        rows = [("plus", "d", "x", "y")] + [("plus", "d", "d", "xy"[at % 2]) for at in range(14)]
        for op, most in (("add", 14), ("sub", 13), ("less", 12), ("and", 14)):
            for many in (most, most + 1):
                house = House(4, 3, ORDERS, [(op, rows[:many])])
                if many == most:
                    self.check(house, 4, house.rules[0], False)
                else:
                    self.assertEqual(refusal(wrong_words, house, 4, house.rules[0]), ("TooMany", "standing"))
                    self.assertEqual(refusal(check_rules, house, 4), ("TooMany", "standing"))


class Checked(unittest.TestCase):
    def test_the_first_wrong_rule(self):
        house = House(6, 5, ORDERS, [rule_of("add", 0, 4, 6), ("sub", WAYS["add"][0]), ("sub", [("below", "d", "x", "y")]),
                                     ("and", [("both", "d", "x", "x")])])
        told = refusal(check_rules, house, 4)
        self.assertEqual(told[:2], ("RuleWrong", "sub"))
        op, words, left = told[1:]
        self.assertEqual(left, told_rule(house, 4, house.rules[1], words))
        self.assertNotEqual(left, operation("sub", *words[:2], 4))
        self.assertEqual(left, rule_left(house, 4, house.rules[1], words))

    def test_by_the_width(self):
        house = House(6, 3, ORDERS, [("add", WAYS["add"][0]), ("num", WAYS["num"][0])])
        self.assertIsNone(check_rules(house, 6))
        self.assertEqual(refusal(check_rules, house, 5)[:2], ("RuleWrong", "add"))
        bare = House(6, 3, ORDERS, [])
        self.assertEqual([check_rules(bare, word) for word in (1, 4, 6)], [None] * 3)
        for word in (0, 7, -1, *WRONG_NUMBERS):
            self.assertEqual(refusal(check_rules, bare, word), ("BadNumber", "word"))


if __name__ == "__main__":
    unittest.main()

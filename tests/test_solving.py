"""Solving and counting ([20] to [22])."""

import random
import unittest

from helpers import WRONG_NUMBERS, WRONG_ROWS, keeps, part_of, refusal, rows_below, term
from selfwritten.groups import groups
from selfwritten.pools import Pool
from selfwritten.solving import how_many, solved, told_apart


def some_demands(pool, rng, unknowns, width, many):
    return [(part_of(pool, term(rng, 3, unknowns, width)), rng.random() < 0.5) for _ in range(many)]


class AgainstAllWords(unittest.TestCase):
    def cases(self, seed, many):
        rng = random.Random(seed)
        while many > 0:
            width = rng.choice((1, 2, 3))
            pool = Pool(width)
            limits = [rng.randrange(width + 1) for _ in range(3)]
            demands = some_demands(pool, rng, 3, width, rng.randrange(5))
            if refusal(how_many, pool, limits, demands) is None:
                many -= 1
                yield rng, pool, limits, demands

    def test_solved_and_how_many(self):
        found = {True: 0, False: 0}
        for rng, pool, limits, demands in self.cases(61, 400):
            kept = [words for words in rows_below(limits) if keeps(pool, demands, words)]
            words = solved(pool, limits, demands)
            self.assertEqual(how_many(pool, limits, demands), len(kept))
            found[words is None] += 1
            if words is None:
                self.assertEqual(kept, [])
            else:
                self.assertIn(words, kept)
                reached = pool.unknowns([part for part, _ in demands])
                self.assertEqual([words[i] for i in range(3) if i not in reached],
                                 [0] * (3 - len(reached)))
        self.assertGreater(min(found.values()), 50)

    def test_one_demand_more(self):
        for rng, pool, limits, demands in self.cases(62, 120):
            part = part_of(pool, term(rng, 2, 3, pool.width))
            both = [demands + [(part, wanted)] for wanted in (True, False)]
            if any(refusal(how_many, pool, limits, more) for more in both):
                continue
            counts = [how_many(pool, limits, more) for more in both]
            self.assertEqual(sum(counts), how_many(pool, limits, demands))

    def test_group_by_group(self):
        for _, pool, limits, demands in self.cases(63, 120):
            alone = [[demands[at] for at in group] for group in groups(pool, demands)]
            some = [solved(pool, limits, group) is None for group in alone]
            self.assertEqual(solved(pool, limits, demands) is None, any(some))

    def test_told_apart(self):
        rng = random.Random(64)
        found = {True: 0, False: 0}
        for _ in range(300):
            width = rng.choice((1, 2))
            pool = Pool(width)
            limits = [rng.randrange(width + 1) for _ in range(3)]
            one = part_of(pool, term(rng, 3, 3, width))
            other = part_of(pool, term(rng, 2, 3, width))
            words = told_apart(pool, limits, one, other)
            apart = [row for row in rows_below(limits) if pool.value(one, row) != pool.value(other, row)]
            found[words is None] += 1
            if words is None:
                self.assertEqual(apart, [])
            else:
                self.assertIn(words, apart)
        self.assertGreater(min(found.values()), 20)


    def test_the_only_words_among_all(self):
        # What is demanded can be kept in few ways, so no standing may be taken for another.
        rng = random.Random(65)
        for _ in range(150):
            pool = Pool(4)
            trees = [term(rng, 2, 3, 4, ("add", "sub", "xor", "and")) for _ in range(3)]
            wanted = [rng.randrange(8) for _ in range(3)]
            demands = []
            for tree in trees:
                part = part_of(pool, tree)
                kept = pool.num(pool.value(part, wanted))
                demands.append((pool.apply("xor", part, kept), False))
            demands += [(pool.unknown(i), True) for i in range(3) if wanted[i]]
            words = solved(pool, [3, 3, 3], demands)
            self.assertIsNotNone(words)
            self.assertTrue(keeps(pool, demands, words))


class Ordinary(unittest.TestCase):
    def test_no_demands(self):
        pool = Pool(4)
        self.assertEqual(solved(pool, [], []), ())
        self.assertEqual(solved(pool, (4, 0, 2), ()), (0, 0, 0))
        self.assertEqual(how_many(pool, [], []), 1)
        self.assertEqual(how_many(pool, (4, 0, 2), ()), 64)

    def test_demands_on_words(self):
        pool = Pool(4)
        five, zero = pool.num(5), pool.num(0)
        self.assertEqual(solved(pool, [4], [(five, True), (zero, False)]), (0,))
        for demand in ((five, False), (zero, True)):
            self.assertIsNone(solved(pool, [4], [(five, True), demand]))
            self.assertEqual(how_many(pool, [4], [(five, True), demand]), 0)
        self.assertEqual(how_many(pool, [4], [(five, True), (five, True)]), 16)

    def test_limits_of_0_and_of_the_width(self):
        for width in (1, 12):
            pool = Pool(width)
            x = pool.unknown(0)
            self.assertIsNone(solved(pool, [0], [(x, True)]))
            self.assertEqual(solved(pool, [0], [(x, False)]), (0,))
            self.assertEqual([how_many(pool, [0], [(x, wanted)]) for wanted in (True, False)], [0, 1])
            counts = [how_many(pool, [width], [(x, wanted)]) for wanted in (True, False)]
            self.assertEqual(counts, [2 ** width - 1, 1])
            full = pool.apply("same", x, pool.num(2 ** width - 1))
            self.assertEqual(solved(pool, [width], [(full, True)]), (2 ** width - 1,))
            if width > 1:
                self.assertIsNone(solved(pool, [width - 1], [(full, True)]))

    def test_both_of_one_part(self):
        pool = Pool(4)
        x, y = pool.unknown(0), pool.unknown(1)
        for part in (x, pool.apply("less", x, y), pool.apply("add", x, y)):
            demands = [(part, True), (part, False)]
            self.assertIsNone(solved(pool, [4, 4], demands))
            self.assertEqual(how_many(pool, [4, 4], demands), 0)

    def test_the_only_words(self):
        pool = Pool(12)
        x, y = pool.unknown(0), pool.unknown(1)
        total = pool.apply("same", pool.apply("add", x, y), pool.num(100))
        apart = pool.apply("same", pool.apply("sub", x, y), pool.num(4096 - 50))
        demands = [(total, True), (apart, True)]
        self.assertEqual(how_many(pool, [12, 12], demands), 2)
        self.assertEqual(solved(pool, [11, 11], demands), (25, 75))
        below = demands + [(pool.apply("less", x, y), False)]
        self.assertEqual(how_many(pool, [12, 12], below), 0)

    def test_counts_of_unreached_unknowns(self):
        pool = Pool(12)
        less = pool.apply("less", pool.unknown(1), pool.num(10))
        self.assertEqual(how_many(pool, [12, 12, 3], [(less, True)]), 4096 * 10 * 8)
        self.assertEqual(how_many(pool, [12, 3, 0], [(less, True)]), 4096 * 8)
        self.assertEqual(how_many(pool, [12, 12], [(less, False)]), 4096 * 4086)

    def test_carries_against_sums(self):
        pool = Pool(8)
        x, y = pool.unknown(0), pool.unknown(1)
        demands = [(pool.carry(x, y), True)]
        self.assertEqual(how_many(pool, [8, 8], demands), sum(range(256)))

    def test_told_apart_at_width_12(self):
        pool = Pool(12)
        xs = [pool.unknown(i) for i in range(6)]
        up, down = xs[0], xs[5]
        for x in xs[1:]:
            up = pool.apply("add", up, x)
        for x in xs[4::-1]:
            down = pool.apply("add", down, x)
        self.assertIsNone(told_apart(pool, [12] * 6, up, down))
        more = pool.apply("add", down, pool.apply("same", xs[0], pool.num(4095)))
        words = told_apart(pool, [12] * 6, up, more)
        self.assertEqual(words[0], 4095)
        self.assertIsNone(told_apart(pool, [11] * 6, up, more))


class Sizes(unittest.TestCase):
    def sums(self, many):
        """A group of 6 unknowns with so many adds."""
        pool = Pool(12)
        xs = [pool.unknown(i) for i in range(6)]
        pairs = [(i, j) for i in range(6) for j in range(i + 1)][:many]
        return pool, [(pool.apply("add", xs[i], xs[j]), True) for i, j in pairs]

    def every(self, pool, limits, demands):
        told = [refusal(call, pool, limits, demands) for call in (solved, how_many)]
        self.assertEqual(told[0], told[1])
        return told[0]

    def test_6_unknowns(self):
        pool = Pool(12)
        part = pool.unknown(0)
        for i in range(1, 6):
            part = pool.apply("or", part, pool.unknown(i))
        self.assertEqual(solved(pool, [12] * 6, [(part, False)]), (0,) * 6)
        self.assertEqual(how_many(pool, [1] * 6, [(part, True)]), 63)
        more = pool.apply("or", part, pool.unknown(6))
        self.assertEqual(self.every(pool, [12] * 7, [(more, False)]), ("TooMany", "unknowns"))

    def test_7_unknowns_in_two_groups(self):
        pool = Pool(4)
        xs = [pool.unknown(i) for i in range(7)]
        demands = [(x, True) for x in xs]
        self.assertEqual(how_many(pool, [4] * 7, demands), 15 ** 7)
        chain = [(pool.apply("and", xs[i], xs[i + 1]), True) for i in range(6)]
        self.assertEqual(self.every(pool, [4] * 7, demands + chain), ("TooMany", "unknowns"))

    def test_14_adds(self):
        pool, demands = self.sums(15)
        part = demands[0][0]
        for other, _ in demands[1:14]:
            part = pool.apply("or", part, other)
        words = solved(pool, [12] * 6, [(part, True)])
        self.assertTrue(keeps(pool, [(part, True)], words))
        more = pool.apply("or", part, demands[14][0])
        self.assertEqual(self.every(pool, [12] * 6, [(more, True)]), ("TooMany", "standing"))

    def test_7_compared(self):
        pool = Pool(4)
        x = pool.unknown(0)
        demands = [(pool.apply("less", x, pool.num(15 - k)), True) for k in range(7)]
        self.assertEqual(how_many(pool, [4], demands), 9)
        more = [(pool.apply("add", x, x), True)]
        self.assertEqual(self.every(pool, [4], demands + more), ("TooMany", "standing"))
        fewer = demands[:6] + [(pool.apply("sub", pool.num(3), x), True), (pool.apply("add", x, x), True)]
        self.assertEqual(how_many(pool, [4], fewer), 7)

    def test_standing_parts_count_once(self):
        pool, demands = self.sums(12)
        part = demands[0][0]
        twelve = demands[:11] + [(pool.apply("xor", part, demands[11][0]), True)]
        self.assertIsNone(refusal(solved, pool, [12] * 6, twelve))

    def test_12_demands(self):
        pool = Pool(4)
        x = pool.unknown(0)
        demands = [(x, True)] * 12
        self.assertEqual(how_many(pool, [4], demands), 15)
        self.assertEqual(self.every(pool, [4], demands + [(x, True)]), ("TooMany", "demands"))
        apart = demands + [(pool.unknown(1), True)] * 12 + [(pool.num(2), True)] * 13
        self.assertEqual(how_many(pool, [4, 4], apart), 225)

    def test_12_demands_with_6_unknowns_and_14_adds(self):
        pool, demands = self.sums(14)
        twelve = demands[:10]
        twelve.append((pool.apply("or", demands[10][0], demands[11][0]), False))
        twelve.append((pool.apply("or", demands[12][0], demands[13][0]), False))
        words = solved(pool, [12] * 6, twelve)
        self.assertTrue(keeps(pool, twelve, words))

    def test_which_is_told(self):
        pool = Pool(4)
        xs = [pool.unknown(i) for i in range(8)]
        many = [(pool.apply("same", xs[0], pool.num(k)), False) for k in range(13)]
        self.assertEqual(self.every(pool, [4] * 8, many), ("TooMany", "standing"))
        wide = [(pool.apply("and", xs[i], xs[i + 1]), True) for i in range(6)]
        self.assertEqual(self.every(pool, [4] * 8, many + wide), ("TooMany", "unknowns"))
        first = [(xs[7], True)] * 13
        self.assertEqual(self.every(pool, [4] * 8, first + many), ("TooMany", "demands"))
        self.assertEqual(self.every(pool, [4] * 8, many + first), ("TooMany", "standing"))

    def test_sizes_ahead_of_deciding(self):
        pool = Pool(4)
        demands = [(pool.num(0), True)] + [(pool.unknown(0), True)] * 13
        self.assertEqual(self.every(pool, [4], demands), ("TooMany", "demands"))

    def test_told_apart(self):
        pool = Pool(4)
        one = other = pool.unknown(0)
        for i in range(1, 7):
            one = pool.apply("and", one, pool.unknown(i))
            other = pool.apply("or", other, pool.unknown(i))
        many = len(pool)
        self.assertEqual(refusal(told_apart, pool, [4] * 7, one, other), ("TooMany", "unknowns"))
        # The part of the demand was made ahead of the sizes.
        self.assertEqual((len(pool), pool.part(many)), (many + 1, ("xor", one, other)))
        self.assertIsNone(told_apart(pool, [4] * 7, one, one))

    def test_4000_parts(self):
        pool = Pool(12)
        x, y = pool.unknown(0), pool.unknown(1)
        for value in range(3998):
            pool.num(value)
        self.assertEqual(refusal(told_apart, pool, [12, 12], x, y), ("TooMany", "parts"))
        self.assertIsNone(told_apart(pool, [12, 12], x, x))
        self.assertEqual(len(pool), 4000)


class Refusals(unittest.TestCase):
    def setUp(self):
        self.pool = Pool(4)
        self.x = self.pool.unknown(0)
        self.y = self.pool.unknown(3)

    def test_limits(self):
        for call in (solved, how_many):
            for limits in WRONG_ROWS:
                self.assertEqual(refusal(call, self.pool, limits, None), ("BadWords", -1), limits)
            for limit in (-1, 5, *WRONG_NUMBERS):
                self.assertEqual(refusal(call, self.pool, [4, 0, limit, 9], None), ("BadWords", 2), limit)
        for limits in WRONG_ROWS:
            self.assertEqual(refusal(told_apart, self.pool, limits, 9, 9), ("BadWords", -1), limits)
        self.assertEqual(refusal(told_apart, self.pool, [4, 5], 9, 9), ("BadWords", 1))

    def test_demands(self):
        x = self.x
        for call in (solved, how_many):
            for demands in WRONG_ROWS:
                self.assertEqual(refusal(call, self.pool, [], demands), ("BadWords", -1), demands)
            for demand in ((x, 1), (2, True), (False, True), (x, True, True), x, None, "ab"):
                told = refusal(call, self.pool, [], [(x, True), demand])
                self.assertEqual(told, ("BadWords", 1), demand)

    def test_reached_unknowns_have_limits(self):
        demands = [(self.x, True), (self.y, True)] + [(self.x, True)] * 12
        for call in (solved, how_many):
            self.assertEqual(refusal(call, self.pool, [], demands), ("BadWords", 0))
            self.assertEqual(refusal(call, self.pool, [4, 4, 4], demands), ("BadWords", 3))
            # Only then are the sizes looked at.
            self.assertEqual(refusal(call, self.pool, [4] * 4, demands), ("TooMany", "demands"))

    def test_told_apart(self):
        pool, x, y = self.pool, self.x, self.y
        for number in (-1, 2, *WRONG_NUMBERS):
            self.assertEqual(refusal(told_apart, pool, [], number, x), ("BadPart",), number)
            self.assertEqual(refusal(told_apart, pool, [], x, number), ("BadPart",), number)
        self.assertIsNone(told_apart(pool, [], y, y))
        self.assertEqual(refusal(told_apart, pool, [4, 4, 4], x, y), ("BadWords", 3))
        self.assertEqual(refusal(told_apart, pool, [4, 4, 4], y, x), ("BadWords", 3))
        self.assertEqual(len(pool), 2)
        zero = pool.apply("and", y, pool.num(0))
        self.assertEqual(told_apart(pool, [4], x, zero) is None, False)

    def test_told_apart_checks_all_unknowns_of_both(self):
        pool = self.pool
        both = pool.apply("xor", self.x, self.y)
        # The operation xor on both would be one part less, but both are looked at.
        self.assertEqual(refusal(told_apart, pool, [4], both, pool.num(0)), ("BadWords", 1))

    def test_nothing_changes(self):
        limits, demands = [4, 0, 0, 2], [[self.x, True], [self.y, False]]
        solved(self.pool, limits, demands)
        how_many(self.pool, limits, demands)
        told_apart(self.pool, limits, self.x, self.x)
        self.assertEqual((limits, demands), ([4, 0, 0, 2], [[self.x, True], [self.y, False]]))
        self.assertEqual(len(self.pool), 2)


if __name__ == "__main__":
    unittest.main()

"""Groups of demands ([20])."""

import random
import unittest

from helpers import WRONG_ROWS, part_of, refusal, term
from selfwritten.groups import groups
from selfwritten.pools import Pool


def joined(pool, demands):
    """The groups, found by joining neighbours until nothing changes."""
    found = [[{at}, set(pool.unknowns([part]))] for at, (part, _) in enumerate(demands)]
    again = True
    while again:
        again = False
        for one in found:
            for other in found:
                if one is not other and one[1] & other[1] and not again:
                    one[0] |= other[0]
                    one[1] |= other[1]
                    found = [row for row in found if row is not other]
                    again = True
    return tuple(sorted(tuple(sorted(row[0])) for row in found))


class Groups(unittest.TestCase):
    def test_none(self):
        self.assertEqual(groups(Pool(4), []), ())

    def test_numbers_are_groups_of_their_own(self):
        pool = Pool(4)
        one = pool.num(1)
        self.assertEqual(groups(pool, [(one, True), (one, True), (pool.num(0), False)]), ((0,), (1,), (2,)))

    def test_one_demand_twice(self):
        pool = Pool(4)
        x = pool.unknown(0)
        self.assertEqual(groups(pool, [(x, True), (x, True), (x, False)]), ((0, 1, 2),))

    def test_chains(self):
        pool = Pool(4)
        a, b, c, d = [pool.unknown(i) for i in range(4)]
        demands = [(a, True), (d, True), (c, True), (b, True), (pool.apply("add", a, b), True),
                   (pool.apply("or", b, c), False)]
        self.assertEqual(groups(pool, demands), ((0, 2, 3, 4, 5), (1,)))

    def test_in_the_order_of_their_first_indexes(self):
        pool = Pool(4)
        x, y = pool.unknown(0), pool.unknown(1)
        demands = [[y, True], [x, True], [pool.num(3), True], [y, False], [x, False]]
        self.assertEqual(groups(pool, demands), ((0, 3), (1, 4), (2,)))

    def test_against_joining(self):
        rng = random.Random(51)
        for _ in range(200):
            pool = Pool(4)
            demands = []
            for _ in range(rng.randrange(1, 9)):
                demands.append((part_of(pool, term(rng, 1, 8, 4)), rng.random() < 0.5))
            self.assertEqual(groups(pool, demands), joined(pool, demands))

    def test_no_sizes_are_checked(self):
        pool = Pool(4)
        demands = [(pool.apply("add", pool.unknown(i), pool.unknown(i + 1)), True) for i in range(63)]
        self.assertEqual(groups(pool, demands), (tuple(range(63)),))

    def test_refusals(self):
        pool = Pool(4)
        x = pool.unknown(0)
        for demands in WRONG_ROWS:
            self.assertEqual(refusal(groups, pool, demands), ("BadWords", -1), demands)
        for demand in ((x, 1), (1, True), (True, True), (x,), None):
            self.assertEqual(refusal(groups, pool, [(x, True), demand]), ("BadWords", 1), demand)


if __name__ == "__main__":
    unittest.main()

"""Standings ([16] to [19])."""

import random
import unittest

from helpers import WRONG_NUMBERS, WRONG_ROWS, keeps, part_of, refusal, rows_below, term
from selfwritten.bits import first_standings, is_end, next_standing, standing_parts
from selfwritten.pools import Pool

STANDING_OPS = ("add", "sub", "less", "same")


def demands_of(pool, rng, width, many):
    """Some demands over two unknowns with few standing parts."""
    found = []
    while len(found) < many:
        part = part_of(pool, term(rng, 3, 2, width))
        numbers = [number for number, _ in found] + [part]
        if len(standing_parts(pool, numbers)) > 4:
            continue
        found.append((part, rng.random() < 0.5))
    return found


def behind(pool, demands, standing, words, places):
    """The standing behind the lowest bits of the words."""
    unknowns = pool.unknowns([part for part, _ in demands])
    for place in range(places):
        bits = [words[i] >> place & 1 for i in unknowns]
        standing = next_standing(pool, demands, place, standing, bits)
    return standing


def standing_at(pool, demands, words, places):
    """What the standing behind so many places has to be, from the words alone ([19])."""
    size = 2 ** places
    entries = []
    for number in standing_parts(pool, [part for part, _ in demands]):
        name, one, other = pool.part(number)
        low = pool.value(one, words) % size
        high = pool.value(other, words) % size
        if name == "add":
            entries.append(int(low + high >= size))
        elif name == "sub":
            entries.append(int(low < high))
        else:
            entries.append(pool.value(number, words))
            entries.append(int(low < high if name == "less" else low == high))
    for part, _ in demands:
        entries.append(int(pool.value(part, words) % size != 0))
    return tuple(entries)


class StandingParts(unittest.TestCase):
    def test_those_that_are_reached(self):
        pool = Pool(4)
        x, y = pool.unknown(0), pool.unknown(1)
        parts = {name: pool.apply(name, x, y) for name in pool.ops()}
        every = [parts[name] for name in pool.ops()]
        self.assertEqual(standing_parts(pool, every), tuple(sorted(parts[name] for name in STANDING_OPS)))
        top = pool.apply("or", parts["same"], parts["add"])
        pool.apply("sub", x, top)
        self.assertEqual(standing_parts(pool, [top]), (parts["add"], parts["same"]))
        self.assertEqual(standing_parts(pool, (top, parts["less"], top)), tuple(sorted(
            [parts["add"], parts["less"], parts["same"]])))
        self.assertEqual(standing_parts(pool, [x, parts["and"]]), ())
        self.assertEqual(standing_parts(pool, []), ())

    def test_refusals(self):
        pool = Pool(4)
        pool.num(1)
        for numbers in (*WRONG_ROWS, [1], [0, -1], [True], [None]):
            self.assertEqual(refusal(standing_parts, pool, numbers), ("BadPart",), numbers)


class Beginnings(unittest.TestCase):
    def test_entries_of_each_kind(self):
        pool = Pool(4)
        x, y = pool.unknown(0), pool.unknown(1)
        wanted = {"add": ((0, 0),), "sub": ((0, 0),), "less": ((0, 0, 0), (1, 0, 0)),
                  "same": ((0, 1, 0), (1, 1, 0))}
        for name, rows in wanted.items():
            demands = [(pool.apply(name, x, y), False)]
            self.assertEqual(first_standings(pool, demands), rows)

    def test_parts_ascend_and_demands_stand_last(self):
        pool = Pool(4)
        x, y = pool.unknown(0), pool.unknown(1)
        same = pool.apply("same", x, y)
        total = pool.apply("add", same, y)
        less = pool.apply("less", total, x)
        rows = first_standings(pool, [[less, True], (x, False), (x, False)])
        self.assertEqual(rows, (
            (0, 1, 0, 0, 0, 0, 0, 0), (0, 1, 0, 1, 0, 0, 0, 0),
            (1, 1, 0, 0, 0, 0, 0, 0), (1, 1, 0, 1, 0, 0, 0, 0)))

    def test_no_demands(self):
        self.assertEqual(first_standings(Pool(4), []), ((),))

    def test_ascending(self):
        rng = random.Random(41)
        for _ in range(50):
            pool = Pool(3)
            rows = first_standings(pool, demands_of(pool, rng, 3, 2))
            self.assertEqual(list(rows), sorted(set(rows)))


class Going(unittest.TestCase):
    def test_standings_behind_places(self):
        rng = random.Random(42)
        for _ in range(60):
            width = rng.choice((1, 2, 3))
            pool = Pool(width)
            demands = demands_of(pool, rng, width, rng.choice((1, 2, 3)))
            for words in rng.sample(rows_below([width, width]), min(6, 4 ** width)):
                right = standing_at(pool, demands, words, 0)
                self.assertIn(right, first_standings(pool, demands))
                for places in range(width + 1):
                    found = behind(pool, demands, right, words, places)
                    self.assertEqual(found, standing_at(pool, demands, words, places))

    def test_ends(self):
        rng = random.Random(43)
        for _ in range(40):
            width = rng.choice((1, 2, 3))
            pool = Pool(width)
            demands = demands_of(pool, rng, width, rng.choice((1, 2)))
            for words in rows_below([width, width]):
                right = standing_at(pool, demands, words, 0)
                for first in first_standings(pool, demands):
                    last = behind(pool, demands, first, words, width)
                    wanted = first == right and keeps(pool, demands, words)
                    self.assertIs(is_end(pool, demands, last), wanted)

    def test_each_kind_at_each_bits(self):
        pool = Pool(2)
        x, y = pool.unknown(0), pool.unknown(1)
        tables = {
            # (x, y, entry) to (next entry, bit)
            "add": lambda x, y, c: (int(x + y + c >= 2), (x + y + c) % 2),
            "sub": lambda x, y, b: (int(x < y + b), (x - y - b) % 2),
        }
        for name, table in tables.items():
            demands = [(pool.apply(name, x, y), True)]
            for bits in rows_below([1, 1]):
                for entry in (0, 1):
                    after, bit = table(*bits, entry)
                    for place in (0, 1):
                        for seen in (0, 1):
                            found = next_standing(pool, demands, place, (entry, seen), bits)
                            self.assertEqual(found, (after, int(seen or bit)))

    def test_compared_at_each_bits(self):
        pool = Pool(2)
        x, y = pool.unknown(0), pool.unknown(1)
        for name in ("less", "same"):
            demands = [(pool.apply(name, x, y), True)]
            for one, other in rows_below([1, 1]):
                for said, now, seen in rows_below([1, 1, 1]):
                    after = now if one == other else int(name == "less" and one < other)
                    for place in (0, 1):
                        found = next_standing(pool, demands, place, [said, now, seen], [one, other])
                        bit = said if place == 0 else 0
                        self.assertEqual(found, (said, after, int(seen or bit)))

    def test_bits_of_the_reached_unknowns_only(self):
        pool = Pool(2)
        pool.unknown(7)
        demands = [(pool.apply("and", pool.unknown(9), pool.unknown(3)), True)]
        self.assertEqual(next_standing(pool, demands, 0, (0,), (1, 1)), (1,))
        only = [(pool.apply("sub", pool.unknown(9), pool.unknown(3)), True)]
        # The bits stand in ascending order: 3 first, then 9.
        self.assertEqual(next_standing(pool, only, 0, (0, 0), (1, 0)), (1, 1))
        self.assertEqual(next_standing(pool, only, 0, (0, 0), (0, 1)), (0, 1))

    def test_numbers_have_their_own_bits(self):
        pool = Pool(3)
        demands = [(pool.num(2), True)]
        self.assertEqual([next_standing(pool, demands, j, (0,), ()) for j in range(3)], [(0,), (1,), (0,)])

    def test_end_needs_what_is_said_and_what_is_seen(self):
        pool = Pool(2)
        x, y = pool.unknown(0), pool.unknown(1)
        demands = [(pool.apply("less", x, y), True), (x, False)]
        for row in rows_below([1] * 4):
            self.assertIs(is_end(pool, demands, row), row[0] == row[1] and row[2:] == (1, 0))
        self.assertIs(is_end(pool, [], ()), True)


class Refusals(unittest.TestCase):
    def setUp(self):
        self.pool = Pool(4)
        self.x = self.pool.unknown(0)
        self.less = self.pool.apply("less", self.x, self.pool.num(3))
        self.good = [(self.less, True)]

    def test_demands(self):
        pool, x = self.pool, self.x
        calls = (
            lambda demands: first_standings(pool, demands),
            lambda demands: next_standing(pool, demands, 99, None, None),
            lambda demands: is_end(pool, demands, None),
        )
        for call in calls:
            for demands in WRONG_ROWS:
                self.assertEqual(refusal(call, demands), ("BadWords", -1), demands)
            wrong = ((x,), (x, True, True), (x, 1), (x, 0), (x, None), (3, True), (-1, True), (True, True),
                     (None, True), "ab", {x: True}, None, 0)
            for demand in wrong:
                demands = [(x, True), [x, False], demand, None]
                self.assertEqual(refusal(call, demands), ("BadWords", 2), demand)

    def test_place(self):
        for place in (-1, 4, *WRONG_NUMBERS):
            told = refusal(next_standing, self.pool, self.good, place, None, None)
            self.assertEqual(told, ("BadNumber", "place"), place)

    def test_standing_then_bits(self):
        pool, good = self.pool, self.good
        for standing in (*WRONG_ROWS, (0, 0), (0, 0, 0, 0), ()):
            self.assertEqual(refusal(next_standing, pool, good, 3, standing, None), ("BadWords", -1))
            self.assertEqual(refusal(is_end, pool, good, standing), ("BadWords", -1))
        for entry in (-1, 2, *WRONG_NUMBERS):
            standing = (0, 1, entry)
            self.assertEqual(refusal(next_standing, pool, good, 3, standing, None), ("BadWords", 2))
            self.assertEqual(refusal(is_end, pool, good, standing), ("BadWords", 2))
            self.assertEqual(refusal(next_standing, pool, good, 3, (0, 1, 0), [entry]), ("BadWords", 0))
        for bits in (*WRONG_ROWS, (), (0, 1)):
            self.assertEqual(refusal(next_standing, pool, good, 3, (0, 1, 0), bits), ("BadWords", -1))

    def test_nothing_changes(self):
        demands = [[self.less, True]]
        standing, bits = [1, 0, 0], [1]
        next_standing(self.pool, demands, 0, standing, bits)
        is_end(self.pool, demands, standing)
        first_standings(self.pool, demands)
        self.assertEqual((demands, standing, bits), ([[self.less, True]], [1, 0, 0], [1]))
        self.assertEqual(len(self.pool), 3)


if __name__ == "__main__":
    unittest.main()

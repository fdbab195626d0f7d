"""Sheets ([23], [24])."""

import random
import unittest

from helpers import WRONG_NUMBERS, WRONG_ROWS, part_of, refusal, rows_below, term
from selfwritten.bits import first_standings, is_end, next_standing
from selfwritten.pools import Pool
from selfwritten.sheets import is_sheet, sheet
from selfwritten.solving import how_many


def sheet_by_words(pool, limits, demands):
    """The sheet, by going along all words from all beginnings."""
    unknowns = pool.unknowns([part for part, _ in demands])
    own = [limits[i] for i in unknowns]
    rows = [set(first_standings(pool, demands))]
    for place in range(pool.width):
        letters = rows_below([int(limit > place) for limit in own])
        rows.append({next_standing(pool, demands, place, standing, bits)
                     for standing in rows[-1] for bits in letters})
    return tuple(tuple(sorted(row)) for row in rows)


def cases(seed, many):
    rng = random.Random(seed)
    while many > 0:
        width = rng.choice((1, 2, 3))
        pool = Pool(width)
        limits = [rng.randrange(width + 1) for _ in range(2)]
        demands = []
        for _ in range(rng.randrange(4)):
            demands.append((part_of(pool, term(rng, 2, 2, width)), rng.random() < 0.5))
        if refusal(sheet, pool, limits, demands) is None:
            many -= 1
            yield rng, pool, limits, demands


class Sheets(unittest.TestCase):
    def test_against_all_words(self):
        for _, pool, limits, demands in cases(71, 150):
            self.assertEqual(sheet(pool, limits, demands), sheet_by_words(pool, limits, demands))

    def test_accepted_exactly_if_no_words_keep_all(self):
        found = {True: 0, False: 0}
        for _, pool, limits, demands in cases(72, 250):
            rows = sheet(pool, limits, demands)
            none = how_many(pool, limits, demands) == 0
            self.assertIs(is_sheet(pool, limits, demands, rows), none)
            found[none] += 1
        self.assertGreater(min(found.values()), 40)

    def test_shape(self):
        for width in (1, 12):
            pool = Pool(width)
            x = pool.unknown(0)
            rows = sheet(pool, [width], [(x, True)])
            self.assertEqual(rows, (((0,),),) + (((0,), (1,)),) * width)
            self.assertEqual(sheet(pool, [0], [(x, True)]), (((0,),),) * (width + 1))
            self.assertEqual(sheet(pool, [], []), (((),),) * (width + 1))

    def test_all_demands_count_as_one_group(self):
        pool = Pool(2)
        xs = [pool.unknown(i) for i in range(7)]
        six = [(x, False) for x in xs[:6]]
        self.assertEqual(len(sheet(pool, [1] * 6, six)[-1]), 64)
        seven = [(x, False) for x in xs]
        self.assertEqual(refusal(sheet, pool, [1] * 7, seven), ("TooMany", "unknowns"))
        self.assertEqual(refusal(is_sheet, pool, [1] * 7, seven, None), ("TooMany", "unknowns"))
        words = [(pool.num(1), True)] * 13
        self.assertEqual(refusal(sheet, pool, [], words), ("TooMany", "demands"))
        self.assertEqual(refusal(is_sheet, pool, [], words, None), ("TooMany", "demands"))
        self.assertEqual(sheet(pool, [], words[1:])[2], ((1,) * 12,))

    def test_14_standing(self):
        pool = Pool(4)
        xs = [pool.unknown(i) for i in range(2)]
        apart = [(pool.apply("same", xs[k % 2], pool.num(k)), True) for k in range(1, 9)]
        self.assertFalse(is_sheet(pool, [1, 1], apart[:7], ()))
        self.assertEqual(refusal(sheet, pool, [1, 1], apart), ("TooMany", "standing"))


class Accepted(unittest.TestCase):
    def setUp(self):
        self.pool = Pool(2)
        x, y = self.pool.unknown(0), self.pool.unknown(1)
        self.limits = [2, 2]
        self.demands = [(self.pool.apply("less", x, y), True), (self.pool.apply("less", y, x), True)]
        self.rows = sheet(self.pool, self.limits, self.demands)

    def accepts(self, rows):
        return is_sheet(self.pool, self.limits, self.demands, rows)

    def test_lists_are_rows_too(self):
        self.assertIs(self.accepts(self.rows), True)
        self.assertIs(self.accepts([[list(standing) for standing in row] for row in self.rows]), True)

    def test_any_order_and_more_than_once(self):
        self.assertIs(self.accepts([row[::-1] + row for row in self.rows]), True)

    def test_each_standing_is_needed(self):
        for at, row in enumerate(self.rows):
            for standing in row:
                fewer = list(self.rows)
                fewer[at] = tuple(other for other in row if other != standing)
                self.assertIs(self.accepts(fewer), False, (at, standing))

    def test_further_standings(self):
        many = len(self.rows[0][0])
        closed = [set(row) for row in self.rows]
        for place in range(3):
            for more in rows_below([1] * many):
                rows = [set(row) for row in closed]
                rows[place].add(more)
                for at in range(place, 2):
                    rows[at + 1] |= {next_standing(self.pool, self.demands, at, standing, bits)
                                     for standing in rows[at] for bits in rows_below([1, 1])}
                last = any(is_end(self.pool, self.demands, standing) for standing in rows[2])
                self.assertIs(self.accepts([list(row) for row in rows]), not last)

    def test_what_a_further_standing_leads_to_is_needed(self):
        rows = [list(row) for row in self.rows]
        # Both were seen without being said: no beginning leads here.
        stray = (0, 0, 0, 0, 1, 1)
        self.assertNotIn(stray, rows[1])
        rows[1].append(stray)
        self.assertIs(self.accepts(rows), False)

    def test_no_sheet(self):
        rows = self.rows
        for wrong in (*WRONG_ROWS, (), rows[:2], rows + rows[2:], rows[::-1], (None,) * 3, "abc"):
            self.assertIs(self.accepts(wrong), False, wrong)
        good = rows[1][0]
        for entry in (2, -1, *WRONG_NUMBERS):
            wrong = [rows[0], rows[1] + ((entry,) + good[1:],), rows[2]]
            self.assertIs(self.accepts(wrong), False, entry)
        for standing in (good + (0,), good[1:], (), None, 0, "000000", dict.fromkeys(range(6), 0)):
            self.assertIs(self.accepts([rows[0], rows[1] + (standing,), rows[2]]), False, standing)

    def test_words_that_keep_all_are_never_denied(self):
        rng = random.Random(73)
        for _, pool, limits, demands in cases(74, 60):
            if how_many(pool, limits, demands) == 0:
                continue
            rows = [list(row) for row in sheet(pool, limits, demands)]
            for _ in range(20):
                less = [[standing for standing in row if rng.random() < 0.8] for row in rows]
                self.assertIs(is_sheet(pool, limits, demands, less), False)
            no_ends = [row for row in rows[-1] if not is_end(pool, demands, row)]
            self.assertIs(is_sheet(pool, limits, demands, rows[:-1] + [no_ends]), False)


class Refusals(unittest.TestCase):
    def setUp(self):
        self.pool = Pool(4)
        self.x = self.pool.unknown(2)
        self.calls = (sheet, lambda *rest: is_sheet(*rest, None))

    def test_limits_then_demands_then_limits_of_unknowns(self):
        for call in self.calls:
            for limits in WRONG_ROWS:
                self.assertEqual(refusal(call, self.pool, limits, None), ("BadWords", -1), limits)
            self.assertEqual(refusal(call, self.pool, [4, 5], None), ("BadWords", 1))
            self.assertEqual(refusal(call, self.pool, [True], None), ("BadWords", 0))
            for demands in WRONG_ROWS:
                self.assertEqual(refusal(call, self.pool, [], demands), ("BadWords", -1), demands)
            self.assertEqual(refusal(call, self.pool, [], [(self.x, True), (self.x, 1)]), ("BadWords", 1))
            many = [(self.x, True)] * 13
            self.assertEqual(refusal(call, self.pool, [4, 4], many), ("BadWords", 2))
            self.assertEqual(refusal(call, self.pool, [4] * 3, many), ("TooMany", "demands"))

    def test_nothing_changes(self):
        limits, demands = [0, 0, 4], [[self.x, True], [self.x, False]]
        rows = [list(row) for row in sheet(self.pool, limits, demands)]
        copy = [list(row) for row in rows]
        self.assertIs(is_sheet(self.pool, limits, demands, rows), True)
        self.assertEqual((limits, demands), ([0, 0, 4], [[self.x, True], [self.x, False]]))
        self.assertEqual((rows, len(self.pool)), (copy, 1))


if __name__ == "__main__":
    unittest.main()

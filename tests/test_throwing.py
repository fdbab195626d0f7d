"""What requests cost ([186] to [188])."""

import random
import time
import unittest

from helpers import WRONG_NUMBERS, WRONG_ROWS, refusal
from shelves import OwnStore
from selfwritten.throwing import furthest, least, lying, made_by

CALLS = {"made_by": lambda row, size: made_by("idle", row, size), "lying": lambda row, size: lying("idle", row, size),
         "least": least, "furthest": furthest}


def drawn_row(rng, many=None, entries=6, marks=0.2):
    many = rng.randrange(30) if many is None else many
    return [(rng.randrange(entries), rng.random() >= marks) for _ in range(many)]


def own_makings(picks, row, size):
    """The makings, and the entries that lie there behind each pair."""
    store, makings, found = OwnStore(size, picks, False), 0, []
    for entry, used in row:
        if not used:
            store.throw(entry)
        elif entry in store.rows:
            store.use(entry)
        else:
            store.put(entry, None)
            makings += 1
        found.append(tuple(sorted(store.rows)))
    return makings, tuple(found)


def least_of_all(row, size):
    """The least number of makings, all ways of picking tried."""
    states = {(): 0}
    for entry, used in row:
        after = {}

        def come(there, cost):
            after[there] = min(after.get(there, cost), cost)

        for there, cost in states.items():
            if not used:
                come(tuple(one for one in there if one != entry), cost)
            elif entry in there:
                come(there, cost)
            else:
                for gone in there if len(there) == size else (None,):
                    come(tuple(sorted([one for one in there if one != gone] + [entry])), cost + 1)
        states = after
    return min(states.values())


def own_furthest(row, size):
    """The entries picked, from the words of [187]."""
    there, picked = set(), []
    for at, (entry, used) in enumerate(row):
        if not used:
            there.discard(entry)
            continue
        if entry not in there and len(there) == size:
            nexts = {}
            for one in there:
                later = [(number, told) for number, (other, told) in enumerate(row) if number > at and other == one]
                nexts[one] = later[0][0] if later and later[0][1] else None
            without = [one for one in there if nexts[one] is None]
            picked.append(min(without) if without else max(there, key=lambda one: nexts[one]))
            there.discard(picked[-1])
        there.add(entry)
    return tuple(picked)


class Makings(unittest.TestCase):
    def test_against_own_store(self):
        rng = random.Random(1186)
        for _ in range(300):
            row = drawn_row(rng, entries=rng.choice((3, 6, 12)))
            row = rng.choice((tuple, list))([rng.choice((tuple, list))(pair) for pair in row])
            size = rng.randrange(1, 9)
            picks = rng.choice(("oldest", "idle", (), [0], (3, 1, 4, 1, 5)))
            makings, found = own_makings(picks, row, size)
            self.assertEqual((made_by(picks, row, size), lying(picks, row, size)), (makings, found))

    def test_least_against_all_ways(self):
        rng = random.Random(187)
        for _ in range(300):
            row = drawn_row(rng, rng.randrange(16), entries=5)
            for size in (1, 2, 3, 4):
                self.assertEqual(least(row, size), least_of_all(row, size))
                for picks in ("oldest", "idle", (2, 0, 1)):
                    self.assertGreaterEqual(made_by(picks, row, size), least(row, size))

    def test_furthest_against_own(self):
        rng = random.Random(1187)
        for _ in range(300):
            row = drawn_row(rng, entries=rng.choice((3, 6, 9)), marks=rng.choice((0, 0.2, 0.5)))
            size = rng.randrange(1, 9)
            self.assertEqual(furthest(row, size), own_furthest(row, size))

    def test_ties_and_marks(self):
        # 3 and 1 have no next use, 2 has one; the least of those without goes.
        self.assertEqual(furthest([(3, True), (1, True), (2, True), (9, True), (2, True)], 3), (1,))
        # The next pair that names 1 is a mark, so it has no next use, though it is used later.
        self.assertEqual(furthest([(2, True), (1, True), (9, True), (1, False), (2, True), (1, True)], 2), (1, 2))
        self.assertEqual(furthest([(2, True), (1, True), (9, True), (1, True), (2, False), (2, True)], 2), (2, 1))
        self.assertEqual(furthest([(2, True), (1, True), (9, True), (1, True), (2, True)], 2), (2, 1))
        self.assertEqual((least([], 3), furthest([], 3), lying("idle", [], 3), made_by("oldest", (), 1)), (0, (), (), 0))
        self.assertEqual(lying("oldest", [(5, False), (5, True), (4, False), (5, False)], 2), ((), (5,), (5,), ()))
        big = 10 ** 39
        self.assertEqual((furthest([(big, True), (3, True)], 1), made_by((7,), [(big, True), (big, True)], 1)), ((big,), 1))

    def test_facts_on_makings(self):
        rng = random.Random(188)
        rises = 0
        for number in range(200):
            row = drawn_row(rng, 60, entries=rng.choice((4, 6, 9)), marks=rng.choice((0, 0.1)))
            if number == 0:
                row = [(entry, True) for entry in (1, 2, 3, 4, 1, 2, 5, 1, 2, 3, 4, 5)]
            firsts, fresh = 0, set()
            for entry, used in row:
                firsts += used and entry not in fresh
                (fresh.add if used else fresh.discard)(entry)
            unlike = len({entry for entry, _ in row})
            for size in range(1, 9):
                if size < 8:
                    for small, large in zip(lying("idle", row, size), lying("idle", row, size + 1)):
                        self.assertLessEqual(set(small), set(large))
                    self.assertGreaterEqual(made_by("idle", row, size), made_by("idle", row, size + 1))
                    rises += made_by("oldest", row, size) < made_by("oldest", row, size + 1)
                for lesser in range(1, size + 1):
                    self.assertLessEqual((size - lesser + 1) * made_by("idle", row, size), size * least(row, lesser))
                for picks in ("oldest", "idle", [rng.randrange(9) for _ in range(4)]):
                    makings = made_by(picks, row, size)
                    self.assertGreaterEqual(makings, firsts)
                    if size >= unlike:
                        self.assertEqual(makings, firsts)
        self.assertGreater(rises, 0)

    def test_ten_thousand_requests(self):
        rng = random.Random(10000)
        begun = time.perf_counter()
        for entries in (9, 200):
            row = drawn_row(rng, 10000, entries=entries, marks=0.05)
            for size in (1, 8):
                self.assertGreaterEqual(made_by("idle", row, size), least(row, size))
                self.assertEqual(len(lying([3, 1], row, size)), 10000)
                self.assertLessEqual(len(furthest(row, size)), least(row, size))
        self.assertLess(time.perf_counter() - begun, 20)

    def test_nothing_is_changed(self):
        row, picks = [[1, True], [2, True], [1, False]], [1, 0]
        for call in CALLS.values():
            call(row, 1)
        made_by(picks, row, 1)
        self.assertEqual((row, picks), ([[1, True], [2, True], [1, False]], [1, 0]))

    def test_refused(self):
        good = [(1, True)]
        for call in (made_by, lying):
            for picks in ("none", None, 3, (-1,), (True,), range(2), {0: 1}):
                self.assertEqual(refusal(call, picks, None, 0), ("BadPlan", 0))
        for name, call in CALLS.items():
            for row in WRONG_ROWS:
                self.assertEqual(refusal(call, row, 0), ("BadWords", -1), name)
            pairs = [None, 3, (), (1,), (1, True, True), (-1, True), (1, 1), (1, 0), (1, None), ("1", True), {0: 1, 1: 2}]
            pairs += [(wrong, True) for wrong in WRONG_NUMBERS]
            for pair in pairs:
                self.assertEqual(refusal(call, [(1, True), (2, False), pair, None], 0), ("BadWords", 2), name)
            for size in (0, 9, *WRONG_NUMBERS):
                self.assertEqual(refusal(call, good, size), ("BadNumber", "size"), name)


if __name__ == "__main__":
    unittest.main()

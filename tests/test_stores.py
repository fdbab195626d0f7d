"""Stores, links, and ways of picking ([151], [152])."""

import random
import unittest

from helpers import WRONG_NUMBERS, WRONG_ROWS, refusal
from selfwritten.books import Book
from selfwritten.linking import force, lay, linked, links_of
from selfwritten.roads import road_of
from selfwritten.rows import Row
from selfwritten.stores import Store, Told
from shelves import OwnStore

BOOK = Book(5, 1, [("nop", ("00000",), ())])
ROAD = {entry: road_of(BOOK, [(entry, ("nop", ()))]) for entry in range(32)}


def row_with(number):
    return Row([("end",)], [("num", number), ("slot", 0)], [(0, 1), (0, 1)])


class Stores(unittest.TestCase):
    def check_equal(self, store, own):
        self.assertEqual(len(store), len(own.rows))
        self.assertEqual(store.entries(), tuple(sorted(own.rows)))
        self.assertEqual(store.made_order(), tuple(own.put_order))
        self.assertEqual(store.used_order(), tuple(own.use_order))
        self.assertEqual(links_of(store), tuple(sorted(own.links)))
        for entry in range(12):
            self.assertEqual(entry in store, entry in own.rows)
            self.assertEqual(store.row_at(entry), own.rows.get(entry))
            self.assertEqual(store.road_at(entry), ROAD[entry] if entry in own.rows else None)

    def test_against_own_store(self):
        rng = random.Random(152)
        for number in range(160):
            size = 1 + number % 8
            picks = rng.choice(("oldest", "idle", (), [0], (3, 1, 4, 1, 5), [10 ** 12, 7]))
            linking = rng.random() < 0.8
            store, own = Store(size, picks=picks, links=linking), OwnStore(size, picks, linking)
            for _ in range(60):
                entry, place = rng.randrange(12), rng.randrange(12)
                kind = rng.choice(("put", "put", "use", "throw", "lay", "lay", "force"))
                if kind == "put":
                    row = row_with(rng.randrange(9))
                    self.assertEqual(store.put(ROAD[entry], row), own.put(entry, row))
                    self.assertIs(store.row_at(entry), row)
                    self.assertIs(store.road_at(entry), ROAD[entry])
                elif kind == "use" and entry in own.rows:
                    own.use(entry)
                    self.assertIsNone(store.use(entry))
                elif kind == "throw":
                    self.assertIs(store.throw(entry), own.throw(entry))
                elif kind == "lay":
                    self.assertIs(lay(store, entry, place), own.lay(entry, place))
                elif kind == "force":
                    own.links.add((entry, place))
                    self.assertIsNone(force(store, entry, place))
                self.assertIs(linked(store, entry, place), (entry, place) in own.links)
                self.check_equal(store, own)

    def test_attributes(self):
        numbers = [3, 4]
        store = Store(2, picks=numbers, links=False)
        numbers[0] = 9
        self.assertEqual((store.size, store.picks, store.linking), (2, (3, 4), False))
        store = Store(8)
        self.assertEqual((store.size, store.picks, store.linking, len(store), store.entries()), (8, "oldest", True, 0, ()))
        self.assertEqual((store.road_at(3), store.row_at(3), 3 in store, links_of(store)), (None, None, False, ()))
        self.assertEqual((store.made_order(), store.used_order()), ((), ()))

    def test_sizes_one_and_eight(self):
        store = Store(1)
        self.assertEqual([store.put(ROAD[at], row_with(0)) for at in (3, 3, 4, 2)], [(), (3,), (3,), (4,)])
        store = Store(8)
        self.assertEqual([store.put(ROAD[at], row_with(0)) for at in range(8)], [()] * 8)
        self.assertEqual(store.put(ROAD[5], row_with(0)), (5,))
        self.assertEqual(store.put(ROAD[9], row_with(0)), (0,))
        self.assertEqual(store.made_order(), (1, 2, 3, 4, 6, 7, 5, 9))

    def test_an_equal_entry_uses_no_number(self):
        store = Store(2, picks=(1, 0))
        for entry in (1, 2, 2, 1):
            store.put(ROAD[entry], row_with(0))
        self.assertEqual([store.put(ROAD[entry], row_with(0)) for entry in (3, 4, 5)], [(2,), (1,), (4,)])

    def test_a_link_goes_with_either_side(self):
        for entry in (1, 2):
            store = Store(3)
            for one in (1, 2, 3):
                store.put(ROAD[one], row_with(0))
            laid = [lay(store, *link) for link in ((1, 2), (2, 1), (1, 1), (2, 2), (3, 3), (1, 2))]
            self.assertEqual(laid, [True] * 5 + [False])
            force(store, 3, 9)
            store.put(ROAD[entry], row_with(0))
            other = 3 - entry
            self.assertEqual(links_of(store), ((other, other), (3, 3), (3, 9)))

    def test_laying_without_a_side_or_without_links(self):
        store = Store(2)
        store.put(ROAD[1], row_with(0))
        self.assertEqual([lay(store, 1, 2), lay(store, 2, 1), links_of(store)], [False, False, ()])
        store = Store(2, links=False)
        store.put(ROAD[1], row_with(0))
        self.assertEqual([lay(store, 1, 1), force(store, 1, 1), links_of(store)], [False, None, ((1, 1),)])

    def test_refused(self):
        for size in (0, 9, -1, *WRONG_NUMBERS):
            self.assertEqual(refusal(Store, size, picks="none"), ("BadNumber", "size"))
        for picks in ("none", "", "Idle", None, 3, {0: 1}, range(2), (0, -1), [True], (1.0,), ("1",), ([0],)):
            self.assertEqual(refusal(Store, 3, picks=picks), ("BadPlan", 0))
        store = Store(2)
        store.put(ROAD[1], row_with(0))
        for entry in (0, 2, -1, True, None, "1"):
            self.assertEqual(refusal(store.use, entry), ("BadNumber", "entry"))
        self.assertEqual((store.throw(0), store.throw(True), store.used_order()), (False, False, (1,)))


class Numbers(unittest.TestCase):
    def test_one_after_another(self):
        told = Told([2, 0, 7])
        self.assertEqual(told.numbers, (2, 0, 7))
        rows = ([5, 3, 9], (5, 3, 9), [4], (8, 1), [6, 2, 0, 1])
        self.assertEqual([told(row) for row in rows], [9, 5, 4, 8, 6])

    def test_empty_numbers_pick_the_first(self):
        told = Told(())
        self.assertEqual((told.numbers, told([4, 2]), told([7])), ((), 4, 7))

    def test_own_copy(self):
        numbers = [1, 0]
        told = Told(numbers)
        numbers[0] = 0
        self.assertEqual((told((3, 4)), told((3, 4)), told((3, 4))), (4, 3, 4))

    def test_refused(self):
        for numbers in WRONG_ROWS:
            self.assertEqual(refusal(Told, numbers), ("BadWords", -1))
        for wrong in (-1, *WRONG_NUMBERS):
            self.assertEqual(refusal(Told, [0, 10 ** 9, wrong, -1]), ("BadWords", 2))
        told = Told([1, 0])
        for entries in (*WRONG_ROWS, (), []):
            self.assertEqual(refusal(told, entries), ("BadWords", -1))
        self.assertEqual((told([3, 4]), told([3, 4])), (4, 3))


if __name__ == "__main__":
    unittest.main()

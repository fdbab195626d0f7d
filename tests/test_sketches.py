"""Sketches of roads and of house rows, and playing them ([121] to [123])."""

import random
import unittest

from helpers import WRONG_NUMBERS, WRONG_ROWS, refusal
from housing import drawn_house, house_of
from plain import BOOKS, let_by_book
from rowing import all_answers, drawn_road, form_of, or_too_many, reads_of, road_run, row_run, spoiled
from selfwritten.books import Book
from selfwritten.pairs import Pair
from selfwritten.pools import Pool
from selfwritten.roads import road_of
from selfwritten.rows import Row
from selfwritten.sketches import Sketch, play, sketch_of_road, sketch_of_row
from selfwritten.templates import template

BOOK = BOOKS[4]


def drawn(seed, many):
    """Drawn pairs of books and houses, with a road."""
    rng = random.Random(seed)
    for number in range(many):
        word = 4 if number % 4 else 8
        book = BOOKS[word] if number % 2 else let_by_book(rng, word, rng.randrange(1, 4))
        pair = Pair(book, drawn_house(rng, word, rng.choice((word, word + 1, 12)), rng.choice((3, 4, 5, 8))))
        yield rng, pair, drawn_road(rng, book, rng.randrange(1, 9))


def drawn_run(rng, book):
    size = 2 ** book.word
    regs = tuple(rng.randrange(size) for _ in range(book.registers))
    return regs, [rng.choice((None,) + (rng.randrange(size),) * 15) for _ in range(rng.randrange(50))]


class OfRoads(unittest.TestCase):
    def test_the_chain(self):
        pairs = [(3, ("ld", ())), (4, ("jeq", (9,))), (9, ("must", ())), (10, ("outa", ())), (12, ("jmp", (2,)))]
        sketch = sketch_of_road(Pool(4), BOOK, road_of(BOOK, pairs))
        self.assertEqual((sketch.word, sketch.registers), (4, 2))
        names = [item[:3] if item[0] == "ask" else item[:1] for item in sketch.chain]
        tick, leave = ("ask", "tick", None), ("leave",)
        self.assertEqual(names, [("ask", "read", None), tick, leave, tick, leave, tick, ("ask", "out", 0), tick, ("end",)])
        hands = [item[-1] if item[0] != "ask" else item[4] for item in sketch.chain]
        self.assertEqual([hand[:2] for hand in hands], [(10, 0), (None, 1), (None, 2), (None, 2), (13, 2), (None, 3),
                                                        (None, 3), (None, 4), (None, 5)])
        self.assertEqual([item[5] is None for item in sketch.chain if item[0] == "ask"], [False] + [True] * 5)
        self.assertEqual(sketch.pool.part(sketch.chain[0][5]), ("get", 2))
        self.assertTrue(all(type(item) is tuple and type(hand[3]) is tuple for item, hand in zip(sketch.chain, hands)))

    def test_played(self):
        for rng, pair, road in drawn(122, 160):
            pool = Pool(rng.choice((pair.book.word, 12)))
            sketch = or_too_many(sketch_of_road, pool, pair.book, road)
            if sketch == "TooMany":
                self.assertGreater(pair.book.registers + reads_of(pair.book, road), 64)
                continue
            for _ in range(8):
                regs, answers = drawn_run(rng, pair.book)
                self.assertEqual(play(sketch, regs, answers), road_run(pair.book, list(road), regs, answers)[0])

    def test_played_for_all_registers_and_answers(self):
        rng = random.Random(123)
        tried = 0
        while tried < 40:
            book = let_by_book(rng, 4, rng.choice((1, 1, 2)))
            road = drawn_road(rng, book, rng.randrange(1, 4))
            if reads_of(book, road) + book.registers > 2:
                continue
            tried += 1
            sketch = sketch_of_road(Pool(rng.choice((4, 7))), book, road)
            for number in range(16 ** book.registers):
                regs = (number % 16, number // 16)[:book.registers]
                for answers, asks, handed in all_answers(lambda told: road_run(book, list(road), regs, told)[0], 4):
                    self.assertEqual(play(sketch, regs, answers), (asks, handed))

    def test_too_many_unknowns(self):
        reads = [("get", 0)] + [("read", 0)] * 11
        book = Book(4, 4, [("a", ("0000",), reads), ("b", ("0001",), reads[:6]), ("c", ("0010",), reads[:7])])
        pairs = [(at, ("a", ())) for at in range(5)]
        for last, told in (("b", None), ("c", ("TooMany", "unknowns"))):
            road = road_of(book, pairs + [(5, (last, ()))])
            self.assertEqual(refusal(sketch_of_road, Pool(4), book, road), told)
        sketch = sketch_of_road(Pool(4), book, road_of(book, pairs + [(5, ("b", ()))]))
        self.assertEqual(play(sketch, (1, 2, 3, 4), (0,) * 99)[1], (None, 6, 6, (1, 2, 3, 4)))

    def test_too_many_parts(self):
        pool = Pool(12)
        for value in range(4000):
            pool.num(value)
        road = road_of(BOOK, [(3, ("nop", ()))])
        self.assertEqual(refusal(sketch_of_road, pool, BOOK, road), ("TooMany", "parts"))


class OfRows(unittest.TestCase):
    def test_the_chain(self):
        book = Book(4, 2, [("nop", ("0000",), ())])
        pair = Pair(book, house_of(4, 6, 4, ops=()))
        steps = [("load", 0, 0), ("read", 1, 0), ("must", 1, 14), ("write", 0, 1), ("tick",), ("in", 2, 5), ("out", 9, 2),
                 ("keep", 2, 7), ("save", 1, 2), ("tick",), ("end",)]
        late = [("slot", 0), ("slot", 1), ("slot", 2), ("reg", 2), ("add", 0, 3), ("num", 50)]
        row = Row(steps, late, [(2, 0, 1), (3, 4, 1), (5, 1, 0), (2, 4, 3)])
        pool = Pool(6)
        sketch = sketch_of_row(pool, pair, row, 11)
        self.assertEqual((sketch.word, sketch.registers, len(sketch.chain)), (4, 2, 9))
        names = [item[:3] if item[0] == "ask" else item[:1] for item in sketch.chain]
        self.assertEqual(names, [("ask", "read", None), ("leave",), ("ask", "write", None), ("ask", "tick", None),
                                 ("ask", "in", 5), ("ask", "out", 9), ("leave",), ("ask", "tick", None), ("end",)])
        hands = [item[-1] if item[0] != "ask" else item[4] for item in sketch.chain]
        self.assertEqual([hand[:2] for hand in hands], [(10, 0), (14, 0), (11, 0), (None, 1), (None, 1), (None, 1),
                                                        (None, 2), (None, 2), (None, 3)])
        words = [3, 5, 9, 8]
        told = [(pool.value(hand[2], words), [pool.value(part, words) for part in hand[3]]) for hand in hands]
        self.assertEqual(told, [(11, [3, 5])] * 3 + [(0, [3, 5])] * 2 + [(8, [11, 5])] + [(50, [5, 3]), (50, [8, 3]), (11, [11, 8])])
        self.assertEqual([pool.value(part, words) for part in sketch.chain[2][3]], [3, 9])

    def test_played(self):
        for rng, pair, road in drawn(1220, 160):
            row = template(pair, road)
            for _ in range(rng.randrange(4)):
                row = spoiled(rng, pair, row)
            sketch = or_too_many(sketch_of_row, Pool(pair.house.width), pair, row, road.entry)
            if sketch == "TooMany":
                continue
            for _ in range(8):
                regs, answers = drawn_run(rng, pair.book)
                self.assertEqual(play(sketch, regs, answers), row_run(pair, row, road.entry, regs, answers)[:2])

    def test_a_template_has_the_chain_of_its_road(self):
        for rng, pair, road in drawn(1221, 60):
            plain = Pair(pair.book, house_of(pair.book.word, pair.house.width))
            pool = Pool(plain.house.width)
            chains = [or_too_many(sketch_of_road, pool, plain.book, road),
                      or_too_many(sketch_of_row, pool, plain, template(plain, road), road.entry)]
            if "TooMany" not in chains:
                self.assertEqual(chains[0].chain, chains[1].chain)

    def test_refused(self):
        pair = Pair(BOOK, house_of(4, 6, 4))
        late, hands = [("slot", 0)], [(0, 0, 0)] * 2
        bad = Row([("load", 4, 0), ("end",)], late, hands)
        self.assertEqual(refusal(sketch_of_row, Pool(6), pair, bad, -1), ("BadRow", 0))
        row = Row([("in", 0, 0)] * 63 + [("end",)], late, hands)
        for place in (16, -1, *WRONG_NUMBERS):
            self.assertEqual(refusal(sketch_of_row, Pool(6), pair, row, place), ("BadNumber", "place"))
        self.assertEqual(refusal(sketch_of_row, Pool(6), pair, row, 15), ("TooMany", "unknowns"))
        row = Row([("in", 0, 0)] * 30 + [("read", 0, 0)] * 32 + [("end",)], late, hands)
        self.assertEqual(len(sketch_of_row(Pool(6), pair, row, 15).chain), 63)


class Objects(unittest.TestCase):
    def made(self, pool):
        r, a = pool.unknown(0), pool.unknown(1)
        hand = [None, 0, pool.num(7), [r]]
        return [["leave", r, hand], ["ask", "in", 3, [], hand, a], ("ask", "write", None, [r, a], (11, 0, a, (a,)), None),
                ["end", [None, 1, pool.apply("add", r, a), [a]]]]

    def test_attributes(self):
        pool = Pool(6)
        items = self.made(pool)
        sketch = Sketch(pool, 4, 1, items)
        self.assertIs(sketch.pool, pool)
        self.assertEqual((sketch.word, sketch.registers), (4, 1))
        chain = sketch.chain
        self.assertIsInstance(chain, tuple)
        items.pop()
        items[0][2][3][0] = 5
        self.assertEqual(sketch.chain, chain)
        self.assertEqual((chain[0][2], chain[3]), ((None, 0, 2, (0,)), ("end", (None, 1, 3, (1,)))))

    def test_play(self):
        pool = Pool(6)
        sketch = Sketch(pool, 4, 1, self.made(pool))
        self.assertEqual(play(sketch, (0,), (9,)), ((), (None, 0, 7, (0,))))
        self.assertEqual(play(sketch, [12], []), ((("in", 3),), (None, 0, 7, (12,))))
        self.assertEqual(play(sketch, (12,), (None, 0)), ((("in", 3),), (None, 0, 7, (12,))))
        self.assertEqual(play(sketch, (12,), (9,)), ((("in", 3), ("write", 12, 9)), (11, 0, 9, (9,))))
        # Words count with the pool's full width.
        self.assertEqual(play(sketch, (12,), (9, 3, 5)), ((("in", 3), ("write", 12, 9)), (None, 1, 21, (9,))))

    def test_refused(self):
        pool = Pool(6)
        sketch = Sketch(pool, 4, 1, self.made(pool))
        for regs in (*WRONG_ROWS, (), (1, 2)):
            self.assertEqual(refusal(play, sketch, regs, None), ("BadWords", -1))
        for word in (16, -1, *WRONG_NUMBERS):
            self.assertEqual(refusal(play, sketch, (word,), None), ("BadWords", 0))
        for answers in WRONG_ROWS:
            self.assertEqual(refusal(play, sketch, (1,), answers), ("BadWords", -1))
        for answer in (16, -1, True, False, "1"):
            self.assertEqual(refusal(play, sketch, (0,), (None, 1, answer)), ("BadWords", 2))


class Forms(unittest.TestCase):
    def test_the_worker_has_each_kind_of_line(self):
        kinds = {line[0] for form in BOOK.forms for line in form.lines}
        self.assertLessEqual({"read", "write", "in", "out", "must", "goto", "put", "next"}, kinds)
        self.assertEqual(form_of(BOOK, "must").lines[1], ("must", 0, 13))


if __name__ == "__main__":
    unittest.main()

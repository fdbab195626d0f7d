"""The judge ([124] to [127])."""

import itertools
import random
import unittest

from helpers import refusal
from housing import drawn_house, house_of
from plain import let_by_book
from rowing import all_answers, drawn_road, form_of, or_too_many, reads_of, registers_below, road_run, row_run, spoiled
from selfwritten.books import Book
from selfwritten.errors import TooMany
from selfwritten.judging import judged
from selfwritten.pairs import Pair
from selfwritten.pools import Pool
from selfwritten.roads import road_of
from selfwritten.rows import Row
from selfwritten.sketches import Sketch, play, sketch_of_road, sketch_of_row
from selfwritten.templates import template


def first_unlike(one, other, word, registers):
    """Registers and answers for which two sketches play differently, all tried one by one; or None."""
    for regs in registers_below(word, registers):
        for answers, asks, handed in all_answers(lambda told: play(one, regs, told), word):
            if play(other, regs, answers) != (asks, handed):
                return regs, answers
    return None


class Shown(unittest.TestCase):
    """What the judge shows is a difference, told as [124] says."""

    def check(self, one, other, same=None):
        told = judged(one, other)
        self.assertEqual(judged(other, one) is None, told is None)
        self.assertIsNone(judged(one, one))
        if same is not None:
            self.assertEqual(told is None, same)
        if told is not None:
            self.shows(one, other, *told)
        return told

    def shows(self, one, other, regs, answers):
        self.assertEqual((type(regs), type(answers), len(regs)), (tuple, tuple, one.registers))
        self.assertTrue(all(0 <= word < 2 ** one.word for word in regs))
        first, second = play(one, regs, answers), play(other, regs, answers)
        self.assertNotEqual(first, second)
        yes = answers[:-1] if answers and answers[-1] is None else answers
        self.assertNotIn(None, yes)
        # Both make these asks, and get a word for each read and in, 0 for the others.
        self.assertEqual(first[0][:len(yes)], second[0][:len(yes)])
        self.assertGreaterEqual(min(len(first[0]), len(second[0])), len(yes))
        for ask, answer in zip(first[0], yes):
            self.assertTrue(0 <= answer < 2 ** one.word if ask[0] in ("read", "in") else answer == 0)
        # They differ behind these asks, and a last None tells that both make the same ask there.
        behind = [told[0][len(yes):] for told in (first, second)]
        same_ask = bool(behind[0]) and behind[0][:1] == behind[1][:1]
        self.assertEqual(same_ask, answers != yes)
        if same_ask:
            self.assertNotEqual(first[1], second[1])


class Chains(Shown):
    """Chains made by hand, of two registers, in a pool of width 6 with words of 4 bits."""

    def setUp(self):
        self.pool = Pool(6)
        self.r, self.s, self.a = (self.pool.unknown(at) for at in range(3))
        self.hand = (None, 0, self.pool.num(3), (self.r, self.s))
        self.last = ("end", (None, 1, self.pool.num(4), (self.r, self.s)))

    def sketch(self, *items):
        return Sketch(self.pool, 4, 2, items)

    def test_ends(self):
        one = self.sketch(self.last)
        for cause, done, place, regs, same in (
            (None, 1, 4, (self.r, self.s), True), (12, 1, 4, (self.r, self.s), False), (None, 2, 4, (self.r, self.s), False),
            (None, 1, 5, (self.r, self.s), False), (None, 1, 4, (self.s, self.r), False), (None, 1, 4, (self.r, self.r), False),
        ):
            self.check(one, self.sketch(("end", (cause, done, self.pool.num(place), regs))), same)

    def test_parts_that_differ_only_beyond_the_words(self):
        # Unknowns are below 16, so these are the same; all words count with the pool's full width.
        top = self.pool.apply("and", self.r, self.pool.num(16))
        hand = (None, 1, self.pool.num(4), (self.pool.apply("or", self.r, top), self.s))
        self.check(self.sketch(self.last), self.sketch(("end", hand)), True)
        wide = self.pool.apply("add", self.r, self.r)
        cut = self.pool.apply("and", wide, self.pool.num(15))
        told = self.check(self.sketch(("end", (None, 1, wide, ()))), self.sketch(("end", (None, 1, cut, ()))), False)
        self.assertGreaterEqual(told[0][0], 8)

    def test_asks(self):
        def ask(name, port=None, parts=(), hand=self.hand):
            answer = self.a if name in ("read", "in") else None
            return self.sketch(("ask", name, port, parts, hand, answer), self.last)

        asks = [ask("read", parts=(self.r,)), ask("read", parts=(self.s,)), ask("write", parts=(self.r, self.s)),
                ask("write", parts=(self.r, self.r)), ask("in", 3), ask("in", 4), ask("out", 3, (self.r,)),
                ask("out", 4, (self.r,)), ask("out", 3, (self.s,)), ask("tick"), self.sketch(self.last)]
        for one, other in itertools.product(asks, asks):
            told = self.check(one, other, one is other)
            if one is not other:
                self.assertEqual(told[1], ())
        # Only the hands differ.
        for hand in ((10, 0, self.pool.num(3), (self.r, self.s)), (None, 1, self.pool.num(3), (self.r, self.s)),
                     (None, 0, self.pool.num(2), (self.r, self.s)), (None, 0, self.pool.num(3), (self.r, self.r))):
            told = self.check(ask("tick"), ask("tick", hand=hand), False)
            self.assertEqual(told[1], (None,))

    def test_leaves(self):
        leave = ("leave", self.r, (12, 0, self.pool.num(3), (self.r, self.s)))
        told = self.check(self.sketch(leave, self.last), self.sketch(self.last), False)
        self.assertEqual(told, ((0, told[0][1]), ()))
        self.check(self.sketch(leave, leave, self.last), self.sketch(leave, self.last), True)
        twice = self.pool.apply("or", self.r, self.pool.apply("and", self.r, self.s))
        self.check(self.sketch(leave, self.last), self.sketch(("leave", twice, leave[2]), self.last), True)
        self.check(self.sketch(leave, self.last), self.sketch(("leave", self.s, leave[2]), self.last), False)
        self.check(self.sketch(leave, self.last), self.sketch(("leave", self.r, (13,) + leave[2][1:]), self.last), False)

    def test_a_leave_may_hand_over_other_parts_that_have_the_words(self):
        # Where the test is 0, r is 0.
        leave = (12, 0, self.pool.num(3))
        one = self.sketch(("leave", self.r, leave + ((self.r, self.s),)), self.last)
        other = self.sketch(("leave", self.r, leave + ((self.pool.num(0), self.s),)), self.last)
        self.check(one, other, True)
        self.check(one, self.sketch(("leave", self.r, leave + ((self.pool.num(1), self.s),)), self.last), False)

    def test_the_order_of_leaves(self):
        first = ("leave", self.r, (12, 0, self.pool.num(3), ()))
        second = ("leave", self.s, (12, 0, self.pool.num(3), ()))
        third = ("leave", self.s, (13, 0, self.pool.num(3), ()))
        self.check(self.sketch(first, second, self.last), self.sketch(second, first, self.last), True)
        told = self.check(self.sketch(first, third, self.last), self.sketch(third, first, self.last), False)
        self.assertEqual(told, ((0, 0), ()))

    def test_behind_an_ask_all_tests_are_passed(self):
        leave = ("leave", self.r, self.hand)
        tick = ("ask", "tick", None, (), self.hand, None)
        self.check(self.sketch(leave, tick, leave, self.last), self.sketch(leave, tick, self.last), True)
        self.check(self.sketch(tick, leave, self.last), self.sketch(tick, self.last), False)
        zero = self.pool.apply("same", self.r, self.pool.num(0))
        never = ("leave", zero, self.hand)
        other = ("end", (14, 9, self.pool.num(9), ()))
        self.check(self.sketch(leave, never, self.last), self.sketch(leave, never, other), True)
        self.check(self.sketch(leave, never, tick, self.last), self.sketch(leave, never, other), True)

    def test_answers_count(self):
        ask = ("ask", "read", None, (self.r,), self.hand, self.a)
        one = self.sketch(ask, ("end", (None, 1, self.a, (self.r, self.s))))
        self.check(one, self.sketch(ask, ("end", (None, 1, self.a, (self.r, self.s)))), True)
        told = self.check(one, self.sketch(ask, ("end", (None, 1, self.s, (self.r, self.s)))), False)
        self.assertEqual(len(told[1]), 1)
        self.assertNotEqual(told[1][0], told[0][1])
        tick = ("ask", "tick", None, (), self.hand, None)
        told = self.check(self.sketch(tick, ask, tick, self.last), self.sketch(tick, ask, self.last), False)
        self.assertEqual((len(told[1]), told[1][0]), (2, 0))

    def test_several_answers(self):
        b, c = self.pool.unknown(3), self.pool.unknown(4)
        tick = ("ask", "tick", None, (), self.hand, None)
        asks = [("ask", "read", None, (self.r,), self.hand, self.a), tick, ("ask", "in", 1, (), self.hand, b), tick,
                ("ask", "in", 2, (), self.hand, c)]
        apart = [self.pool.apply("xor", part, self.pool.num(word)) for part, word in ((self.a, 5), (b, 9), (c, 14), (self.s, 3))]
        one = apart[0]
        for part in apart[1:]:
            one = self.pool.apply("or", one, part)
        differs = self.pool.apply("same", one, self.pool.num(0))
        hand = (None, 1, self.pool.apply("add", self.pool.num(4), differs), (self.r, self.s))
        told = self.check(self.sketch(*asks, self.last), self.sketch(*asks, ("end", hand)), False)
        self.assertEqual((told[0][1], told[1]), (3, (5, 0, 9, 0, 14)))
        told = self.check(self.sketch(*asks, tick, self.last), self.sketch(*asks, ("leave", one, hand), tick, self.last), False)
        self.assertEqual((told[0][1], told[1]), (3, (5, 0, 9, 0, 14)))

    def test_numbers_are_decided_at_once(self):
        for word in (0, 1, 63):
            leave = ("leave", self.pool.num(word), self.hand)
            self.check(self.sketch(leave, self.last), self.sketch(self.last), word != 0)
            self.check(self.sketch(leave, leave, self.last), self.sketch(leave, self.last), True)

    def test_parts_made_are_those_of_xor(self):
        one = self.sketch(("leave", self.r, self.hand), self.last)
        other = self.sketch(("leave", self.s, self.hand), ("end", (None, 1, self.s, (self.s, self.r))))
        before = len(self.pool)
        self.assertIsNone(judged(one, self.sketch(("leave", self.r, self.hand), self.last)))
        self.assertEqual(len(self.pool), before)
        judged(one, other)
        self.assertTrue(all(part[0] in ("xor", "num") for part in list(self.pool)[before:]))
        for value in range(64):
            self.pool.num(value)
        wide = Pool(12)
        r, s = wide.unknown(0), wide.unknown(1)
        for value in range(3998):
            wide.num(value)
        chains = [Sketch(wide, 4, 2, [("end", (None, 1, part, (r, s)))]) for part in (r, s)]
        self.assertIsNone(judged(chains[0], chains[0]))
        self.assertEqual(refusal(judged, *chains), ("TooMany", "parts"))


class Sizes(Shown):
    def chains(self, pool, word, items, other):
        return Sketch(pool, word, 4, items), Sketch(pool, word, 4, other)

    def test_just_decided(self):
        for word, width in ((4, 4), (8, 8), (8, 12)):
            pool = Pool(width)
            unknowns = [pool.unknown(at) for at in range(6)]
            sums = [pool.apply("add", one, two) for one, two in list(itertools.combinations(unknowns, 2))[:14]]
            hand = (None, 0, unknowns[0], tuple(unknowns[:4]))
            asks = [("ask", "in", port, (), hand, unknowns[4 + port]) for port in (0, 1)]

            def end(parts):
                whole = parts[0]
                for part in parts[1:]:
                    whole = pool.apply("xor", whole, part)
                return ("end", (None, 1, whole, tuple(unknowns[:4])))

            leaves = [("leave", part, hand) for part in sums[:5]]
            more = [("leave", part, hand) for part in sums[:6]]
            one, other = self.chains(pool, word, asks + leaves + [end(sums)], asks + leaves + [end(sums[::-1])])
            self.check(one, other, True)
            one, other = self.chains(pool, word, asks + leaves + [end(sums)], asks + more + [end(sums)])
            self.check(one, other, False)
            one, other = self.chains(pool, word, asks + leaves + [end(sums)], asks + leaves + [end(sums[1:])])
            self.check(one, other, False)

    def test_just_refused_or_right(self):
        pool = Pool(4)
        unknowns = [pool.unknown(at) for at in range(7)]
        hand = (None, 0, unknowns[0], tuple(unknowns[:4]))
        asks = [("ask", "in", port, (), hand, unknowns[4 + port]) for port in range(3)]
        for many, sums in ((7, 3), (6, 15)):
            parts = unknowns[:many]
            pairs = list(itertools.combinations(parts, 2))[:sums]
            added = [pool.apply("add", one, two) for one, two in pairs]
            ends = []
            for row in (parts + added, (parts + added)[::-1]):
                whole = row[0]
                for part in row[1:]:
                    whole = pool.apply("xor", whole, part)
                ends.append(("end", (None, 1, whole, ())))
            one, other = self.chains(pool, 4, asks + ends[:1], asks + ends[1:])
            told = or_too_many(judged, one, other)
            self.assertIn(told, (None, "TooMany"))

    def test_too_many_is_told_by_its_name(self):
        pool = Pool(4)
        unknowns = [pool.unknown(at) for at in range(9)]
        whole = unknowns[0]
        for part in unknowns[1:]:
            whole = pool.apply("add", whole, part)
        asks = [("ask", "in", 0, (), (None, 0, 0, ()), unknowns[4 + at]) for at in range(5)]
        one, other = self.chains(pool, 4, asks + [("end", (None, 1, whole, ()))], asks + [("end", (None, 1, 0, ()))])
        told = refusal(judged, one, other)
        self.assertIn(told, (None, ("TooMany", "unknowns")))

    def test_equal_chains_of_any_size(self):
        rng = random.Random(126)
        for _ in range(20):
            book = let_by_book(rng, 4, 3)
            road = drawn_road(rng, book, 8)
            if reads_of(book, road) > 61:
                continue
            pool = Pool(4)
            self.assertIsNone(judged(sketch_of_road(pool, book, road), sketch_of_road(pool, book, road)))


class Drawn(Shown):
    def drawn(self, seed, many):
        """Drawn pairs of books and houses, each with a road and its template, small enough to be tried."""
        rng = random.Random(seed)
        made = 0
        while made < many:
            book = let_by_book(rng, 4, rng.choice((1, 1, 2)))
            road = drawn_road(rng, book, rng.randrange(1, 5))
            if reads_of(book, road) + book.registers > 3 or (book.registers == 2 and reads_of(book, road) > 0):
                continue
            made += 1
            pair = Pair(book, drawn_house(rng, 4, rng.choice((4, 6)), rng.choice((3, 5))))
            yield rng, pair, road, template(pair, road)

    def test_templates_and_spoiled_rows(self):
        told = {True: 0, False: 0, None: 0}
        for rng, pair, road, row in self.drawn(127, 130):
            pool = Pool(pair.house.width)
            one = sketch_of_road(pool, pair.book, road)
            other = sketch_of_row(pool, pair, row, road.entry)
            try:
                self.check(one, other, True)
            except TooMany:
                told[None] += 1
            for _ in range(3):
                bad = spoiled(rng, pair, row)
                if len(bad.hands) != len(road) + 1:
                    continue
                other = sketch_of_row(pool, pair, bad, road.entry)
                try:
                    same = judged(one, other) is None
                except TooMany:
                    told[None] += 1
                    continue
                told[same] += 1
                self.check(one, other, first_unlike(one, other, 4, pair.book.registers) is None)
        self.assertGreater(told[True], 30)
        self.assertGreater(told[False], 90)

    def test_two_spoiled_rows(self):
        for rng, pair, road, row in self.drawn(1270, 60):
            pool = Pool(pair.house.width)
            rows = [spoiled(rng, pair, row) for _ in range(3)]
            sketches = [sketch_of_row(pool, pair, one, road.entry) for one in rows if len(one.hands) == len(row.hands)]
            alike = {}
            for one, other in itertools.product(range(len(sketches)), repeat=2):
                alike[one, other] = or_too_many(judged, sketches[one], sketches[other])
                if alike[one, other] != "TooMany":
                    same = first_unlike(sketches[one], sketches[other], 4, pair.book.registers) is None
                    self.check(sketches[one], sketches[other], same)
            for one, two, three in itertools.product(range(len(sketches)), repeat=3):
                if alike[one, two] is None and alike[two, three] is None:
                    self.assertIn(alike[one, three], (None, "TooMany"))

    def test_a_step_that_asks_twice(self):
        told = {True: 0, False: 0}
        for _, pair, road, row in self.drawn(1271, 150):
            asked = self.most_asks(pair, road)
            pool = Pool(pair.house.width)
            one = sketch_of_road(pool, pair.book, road)
            asking = [at for at, step in enumerate(row.steps) if step[0] in ("read", "write", "in", "out", "tick")]
            for number, at in enumerate(asking):
                if row.steps[at][0] == "tick":
                    continue
                twice = Row(row.steps[:at] + row.steps[at:at + 1] + row.steps[at:], row.late, row.hands)
                same = number >= asked
                told[same] += 1
                self.check(one, sketch_of_row(pool, pair, twice, road.entry), same)
            if 0 < asked and row.steps[asking[asked - 1]][0] != "tick":
                at = asking[asked - 1]
                without = Row(row.steps[:at] + row.steps[at + 1:], row.late, row.hands)
                self.check(one, sketch_of_row(pool, pair, without, road.entry), False)
        self.assertGreater(told[True], 2)
        self.assertGreater(told[False], 50)

    def most_asks(self, pair, road):
        """How many asks some run of the road makes."""
        most = 0
        for regs in registers_below(4, pair.book.registers):
            for _, asks, _ in all_answers(lambda told: road_run(pair.book, list(road), regs, told)[0], 4):
                most = max(most, len(asks))
        return most

    def test_other_rules_for_the_same(self):
        rng = random.Random(1272)
        for number in range(40):
            book = let_by_book(rng, 4, 2)
            road = drawn_road(rng, book, rng.randrange(1, 4))
            pair = Pair(book, drawn_house(rng, 4, rng.choice((4, 6)), 5))
            row = template(pair, road)
            pool = Pool(pair.house.width)
            sketches = [or_too_many(sketch_of_road, pool, book, road), or_too_many(sketch_of_row, pool, pair, row, road.entry)]
            if "TooMany" not in sketches:
                self.assertIn(or_too_many(judged, *sketches), (None, "TooMany"))

    def test_a_row_that_goes_wrong_at_one_word(self):
        book = Book(8, 1, [("inc", ("00000001",), [("get", 0), ("num", 1), ("add", 0, 1), ("put", 0, 2)])])
        pair = Pair(book, house_of(8, 8))
        road = road_of(book, [(7, ("inc", ()))])
        late = [("slot", 0), ("num", 7), ("num", 8), ("num", 1), ("add", 0, 3), ("num", 201), ("same", 0, 5), ("add", 4, 6)]
        row = Row([("end",)], late, [(1, 0), (2, 7)])
        pool = Pool(8)
        one, other = sketch_of_road(pool, book, road), sketch_of_row(pool, pair, row, 7)
        self.assertEqual(self.check(one, other, False), ((201,), ()))
        self.assertEqual(row_run(pair, row, 7, (201,), ())[1], (None, 1, 8, (203,)))
        self.assertEqual(form_of(book, "inc").size, 1)


if __name__ == "__main__":
    unittest.main()

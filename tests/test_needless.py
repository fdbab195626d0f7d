"""Musts, keeps and asks of a road that no run needs or comes to ([131], [219])."""

import random
import unittest

from helpers import OPS, operation, refusal
from housing import drawn_house
from model import drawn_apart
from plain import BOOKS, let_by_book
from rowing import all_answers, drawn_road, first_unlike, form_of, or_too_many, reads_of, registers_below, road_run, row_run
from selfwritten.books import Book
from selfwritten.judging import judged
from selfwritten.needless import ever_asked, needless_musts, sure_keeps
from selfwritten.pairs import Pair
from selfwritten.pools import Pool
from selfwritten.roads import road_of
from selfwritten.rows import Row
from selfwritten.sketches import sketch_of_road, sketch_of_row
from selfwritten.templates import template


def found_zero(book, road, regs, answers):
    """The must (instruction, line) that finds 0 in the run, and the boundary at which it is off; None for neither."""
    asks, left = 0, list(answers)
    for i, (place, (name, numbers)) in enumerate(road):
        form, size, words = form_of(book, name), 2 ** book.word, {}
        letters = {letter: number for (letter, _), number in zip(form.letters, numbers)}
        new, after = list(regs), (place + form.size) % size
        for at, (kind, *rest) in enumerate(form.lines):
            if kind == "must" and words[rest[0]] == 0:
                return (i, at), None
            if kind in ("read", "write", "in", "out"):
                words[at] = left.pop(0) if left else None
                asks += 1
                if words[at] is None:
                    return None, None
            elif kind in OPS:
                words[at] = operation(kind, words[rest[0]], words[rest[1]], book.word)
            elif kind in ("get", "num"):
                told = letters.get(rest[0], rest[0])
                words[at] = regs[told] if kind == "get" else told
            elif kind in ("here", "next"):
                words[at] = place if kind == "here" else (place + form.size) % size
        for kind, *rest in form.lines:
            if kind == "put":
                new[letters.get(rest[0], rest[0])] = words[rest[1]]
            if kind == "goto":
                after = words[rest[0]]
        regs = tuple(new)
        if i + 1 < len(road):
            if after != road.places[i + 1]:
                return None, i + 1
            if not left or left.pop(0) is None:
                return None, None
    return None, None


def tried(book, road):
    """All runs: the musts that find 0, the boundaries at which some run is off, and the most asks."""
    zeros, offs, most = set(), set(), 0
    for regs in registers_below(book.word, book.registers):
        for answers, asks, _ in all_answers(lambda told: road_run(book, list(road), regs, told)[0], book.word):
            zero, off = found_zero(book, road, regs, answers)
            zeros.add(zero)
            offs.add(off)
            most = max(most, len(asks))
    return zeros, offs, most


def musts_of(book, road):
    return [(i, at) for i, (name, _) in enumerate(road.instructions)
            for at, line in enumerate(form_of(book, name).lines) if line[0] == "must"]


def gotos_of(book, road):
    """The boundaries behind a goto that are neither the first nor the last."""
    return [i + 1 for i, (name, _) in enumerate(road.instructions[:-1])
            if any(line[0] == "goto" for line in form_of(book, name).lines)]


def asks_of(book, road):
    asks = [sum(line[0] in ("read", "write", "in", "out") for line in form_of(book, name).lines)
            for name, _ in road.instructions]
    return sum(asks) + len(asks) - 1


class Tried(unittest.TestCase):
    def drawn(self, seed, many):
        """Drawn books and roads, small enough to be tried, half of the books not let by."""
        rng = random.Random(seed)
        made = 0
        while made < many:
            kinds = rng.choice((drawn_apart, None))
            book = kinds(rng, 4, rng.choice((1, 2)), 6, lines=7, half=rng.random() < 0.5) if kinds else let_by_book(rng, 4, 1)
            road = drawn_road(rng, book, rng.randrange(1, 6))
            reads = reads_of(book, road)
            if reads + book.registers > 3 or (book.registers == 2 and reads > 0):
                continue
            if not musts_of(book, road) and not gotos_of(book, road):
                continue
            made += 1
            yield rng, book, road

    def test_all_runs(self):
        told = {"needless": 0, "needed": 0, "sure": 0, "unsure": 0, "asked": 0, "never": 0}
        for _, book, road in self.drawn(131, 170):
            zeros, offs, most = tried(book, road)
            musts = [must for must in musts_of(book, road) if must not in zeros]
            sure = [at for at in gotos_of(book, road) if at not in offs]
            self.assertIn(or_too_many(needless_musts, book, road), (tuple(musts), "TooMany"))
            self.assertIn(or_too_many(sure_keeps, book, road), (tuple(sure), "TooMany"))
            asked = tuple(at < most for at in range(asks_of(book, road)))
            found = or_too_many(ever_asked, book, road)
            self.assertIn(found, (asked, "TooMany"))
            told["needless"] += len(musts)
            told["needed"] += len(musts_of(book, road)) - len(musts)
            told["sure"] += len(sure)
            told["unsure"] += len(gotos_of(book, road)) - len(sure)
            told["asked"] += sum(asked)
            told["never"] += len(asked) - sum(asked)
            self.assertTrue(found == "TooMany" or all(type(one) is bool for one in found))
        self.assertGreater(min(told.values()), 12, told)

    def test_templates_without_them(self):
        rng = random.Random(1310)
        left_out, sure_ones, others = 0, 0, 0
        for _, book, road in self.drawn(1311, 400):
            try:
                pair = Pair(book, drawn_house(rng, 4, 4, 5))
                musts, sure = needless_musts(book, road), sure_keeps(book, road)
            except Exception:
                continue
            row = template(pair, road)
            steps, keeps = self.without(book, road, row, musts, sure)
            less = Row(steps, row.late, row.hands)
            pool = Pool(4)
            one = sketch_of_road(pool, book, road)
            told = or_too_many(judged, one, sketch_of_row(pool, pair, less, road.entry))
            self.assertIn(told, (None, "TooMany"))
            left_out += len(row.steps) - len(less.steps)
            # Without one keep alone.
            for boundary, at in keeps:
                less = Row(row.steps[:at] + row.steps[at + 1:], row.late, row.hands)
                same = first_unlike(lambda regs, answers: road_run(book, list(road), regs, answers)[0],
                                    lambda regs, answers: row_run(pair, less, road.entry, regs, answers), 4, book.registers)
                self.assertEqual(same is None, boundary in sure)
                told = or_too_many(judged, one, sketch_of_row(pool, pair, less, road.entry))
                self.assertTrue(told == "TooMany" or (told is None) == (boundary in sure))
                sure_ones += boundary in sure
                others += boundary not in sure
        self.assertGreater(left_out, 20)
        self.assertGreater(sure_ones, 10)
        self.assertGreater(others, 10)

    def without(self, book, road, row, musts, sure):
        """The steps without those of these musts and keeps, and where the keeps stand."""
        steps, keeps, all_musts, i, boundary = [], [], musts_of(book, road), 0, 0
        for at, step in enumerate(row.steps):
            boundary += step[0] == "tick"
            if step[0] == "must":
                i += 1
                if all_musts[i - 1] in musts:
                    continue
            if step[0] == "keep":
                keeps.append((boundary + 1, at))
                if boundary + 1 in sure:
                    continue
            steps.append(step)
        return steps, keeps

    def test_musts_behind_effects(self):
        rng = random.Random(219)
        behind = 0
        while behind < 40:
            book = let_by_book(rng, 4, 2)
            lines = [("get", 0), ("must", 0, 12), ("write", 0, 0), ("must", 0, 13), ("num", 4), ("must", 4, 14)]
            forms = [(form.name, form.patterns, form.lines) for form in book.forms if form.patterns[0] != "1111"][:4]
            try:
                book = Book(4, 2, [("eff", ("1111",), lines)] + [form for form in forms if form[0] != "eff"])
                Pair(book, drawn_house(rng, 4, 4, 5))
            except Exception:
                continue
            road = drawn_road(rng, book, rng.randrange(1, 7))
            found = or_too_many(needless_musts, book, road)
            for i, (name, _) in enumerate(road.instructions):
                form = form_of(book, name)
                for at, line in enumerate(form.lines):
                    if line[0] == "must" and form.effect is not None and at > form.effect and found != "TooMany":
                        self.assertIn((i, at), found)
                        behind += 1


class Told(unittest.TestCase):
    BOOK = BOOKS[4]

    def test_musts(self):
        swap, must, one = ("swap", ()), ("must", ()), ("set", (1, 5))
        for pairs, wanted in (
            ([(0, must)], ()), ([(0, must), (1, must)], ()), ([(0, must), (1, must), (2, must)], ((2, 1),)),
            ([(0, one), (2, must)], ((1, 1),)),
            ([(0, must), (1, swap), (2, must)], ()), ([(0, ("set", (1, 0))), (2, must), (3, must)], ((2, 1),)),
        ):
            self.assertEqual(needless_musts(self.BOOK, road_of(self.BOOK, pairs)), wanted)

    def test_keeps(self):
        for pairs, wanted in (
            ([(0, ("jmp", (5,))), (5, ("jmp", (0,))), (0, ("nop", ()))], (1, 2)),
            ([(0, ("jmp", (5,))), (6, ("jmp", (0,))), (0, ("nop", ()))], (2,)),
            ([(0, ("jeq", (5,))), (5, ("nop", ()))], ()), ([(0, ("jeq", (2,))), (2, ("nop", ()))], (1,)),
            ([(0, ("jeq", (5,))), (5, ("jeq", (0,))), (0, ("jeq", (5,))), (5, ("nop", ()))], (2, 3)),
            ([(0, ("jmp", (5,)))], ()),
        ):
            self.assertEqual(sure_keeps(self.BOOK, road_of(self.BOOK, pairs)), wanted)

    def test_asks(self):
        ld, jmp = ("ld", ()), ("jmp", (7,))
        road = road_of(self.BOOK, [(0, ld), (1, jmp), (6, ld), (7, ("outa", ()))])
        self.assertEqual(ever_asked(self.BOOK, road), (True, True, False, False, False, False))
        road = road_of(self.BOOK, [(0, ld), (1, jmp), (7, ld), (8, ("outa", ()))])
        self.assertEqual(ever_asked(self.BOOK, road), (True,) * 6)
        self.assertEqual(ever_asked(self.BOOK, road_of(self.BOOK, [(0, ("nop", ()))])), ())

    def test_sizes_just_decided(self):
        lines = [("get", 0), ("get", 1), ("add", 0, 1), ("must", 2, 12), ("put", 0, 2)]
        book = Book(8, 2, [("odd", ("00000001",), lines)])
        for many in (1, 7, 8):
            road = road_of(book, [(at, ("odd", ())) for at in range(many)])
            self.assertEqual(needless_musts(book, road), ())
            self.assertEqual(ever_asked(book, road), (True,) * (many - 1))

    def test_too_many(self):
        lines = [("get", 0), ("get", 1), ("add", 0, 1), ("add", 2, 1), ("must", 3, 12), ("put", 0, 3)]
        book = Book(8, 2, [("odd", ("00000001",), lines)])
        road = road_of(book, [(at, ("odd", ())) for at in range(8)])
        for call in (needless_musts, ever_asked, sure_keeps):
            self.assertIn(refusal(call, book, road), (None, ("TooMany", "standing")))
        reads = [("get", 0)] + [("read", 0)] * 10
        book = Book(4, 4, [("rd", ("0000",), reads)])
        road = road_of(book, [(at, ("rd", ())) for at in range(7)])
        for call in (needless_musts, ever_asked, sure_keeps):
            self.assertEqual(refusal(call, book, road), ("TooMany", "unknowns"))


if __name__ == "__main__":
    unittest.main()

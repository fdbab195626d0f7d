"""Facts across the stages ([211] to [215], [218], [227])."""

import random
import unittest

from plain import BOOKS, drawn_machine, drawn_start
from riding import drawn_case, drawn_pair, drawn_picks, drawn_ways, long_pair, worlds_of
from rowing import spoiled
from selfwritten.assembly import assembled
from selfwritten.bills import keeps_bounds
from selfwritten.books import Book
from selfwritten.desks import Desk
from selfwritten.fasts import Fast
from selfwritten.happenings import start
from selfwritten.likeness import books_alike
from selfwritten.machines import Machine
from selfwritten.mending import good_row
from selfwritten.requests import requests
from selfwritten.roads import along
from selfwritten.runs import run, trail
from selfwritten.templates import template
from selfwritten.trimming import trimmed


def shuffled(rng, form):
    """Lines that do the same: operands that change places, words put together, lines that nobody names."""
    lines, names = [], {}
    for number, (kind, *rest) in enumerate(form.lines):
        if rng.random() < 0.2 and len(lines) - number + len(form.lines) < 12:
            lines.append(rng.choice((("num", rng.randrange(16)), ("here",), ("next",))))
        if kind in ("add", "and", "or", "xor", "same"):
            rest = [names[one] for one in rest]
            rng.shuffle(rest)
        elif kind in ("sub", "less", "write"):
            rest = [names[one] for one in rest]
        elif kind in ("read", "must", "goto"):
            rest[0] = names[rest[0]]
        elif kind in ("put", "out"):
            rest[1] = names[rest[1]]
        names[number] = len(lines)
        lines.append((kind, *rest))
    return lines


class Facts(unittest.TestCase):
    def test_spoiled_offers_are_never_entered(self):
        rng = random.Random(211)
        refused = taken = 0
        for _ in range(80):
            machine, pair, world = drawn_case(rng)
            worlds = worlds_of(machine, world, 60)
            offers = []
            for now in worlds[::3]:
                places, q = [], rng.randrange(machine.processors)
                for one in worlds[now.moment - world.moment:][:3]:
                    if not places or places[-1] != one.processors[q].place:
                        places.append(one.processors[q].place)
                road = along(machine, now, places)
                if road is not None:
                    row = rng.choice((template, trimmed))(pair, road)
                    for _ in range(rng.randrange(3)):
                        row = spoiled(rng, pair, row)
                    offers.append((places, row))
                    refused += not good_row(pair, road, row)
            fast = Fast(machine, pair, world, plan=[(3, 1)], offers=offers, size=rng.randrange(1, 9))
            name, rows = "", [row for _, row in offers]
            while name != "none":
                name = fast.deed(60)
                if name == "enter":
                    entry = fast.riding()[0]
                    self.assertTrue(good_row(pair, fast.store.road_at(entry), fast.store.row_at(entry)))
                    taken += fast.store.row_at(entry) in rows
            self.assertEqual(fast.world, run(machine, world, 60))
        self.assertGreater(min(taken, refused), 15)

    def test_books_that_are_alike(self):
        rng = random.Random(213)
        done = 0
        while done < 40:
            machine = drawn_machine(rng, 4, book=BOOKS[4])
            book = machine.book
            forms = [(form.name, form.patterns, shuffled(rng, form)) for form in book.forms]
            other = Book(book.word, book.registers, forms)
            self.assertIsNone(books_alike(book, other))
            twin = Machine(other, depth=machine.depth, events=machine.events, turns=machine.turns, processors=machine.processors)
            world = drawn_start(rng, machine)
            self.assertEqual(list(trail(machine, world, 60)), list(trail(twin, world, 60)))
            longest, size, picks = rng.randrange(1, 9), rng.randrange(1, 9), drawn_picks(rng)
            self.assertEqual(requests(machine, world, 60, longest), requests(twin, world, 60, longest))
            told = []
            for one in (machine, twin):
                pair = drawn_pair(rng, one.book, longest=8)
                fast = Fast(one, pair, world, size=size, picks=picks, plan=[(rng.choice((1, 2)), longest)])
                told.append((fast.run(60), fast.enterings(), fast.lefts(), fast.made))
                self.assertTrue(keeps_bounds(fast))
            self.assertEqual(told[0], told[1])
            done += 1

    def test_two_houses(self):
        rng = random.Random(214)
        for _ in range(50):
            machine, pair, world = drawn_case(rng)
            other = drawn_pair(rng, machine.book)
            longest = rng.randrange(1, min(pair.longest, other.longest) + 1)
            one, two = [Fast(machine, own, world, plan=[(rng.choice((1, 2)), longest)]) for own in (pair, other)]
            for moment in range(0, 50):
                self.assertEqual(one.run(moment), two.run(moment))
                self.assertTrue(keeps_bounds(one) and keeps_bounds(two))
            self.assertEqual(one.enterings(), two.enterings())

    def test_desks_by_both_machines(self):
        rng = random.Random(218)
        for _ in range(30):
            machine, pair, world = drawn_case(rng)
            plan = [(rng.choice((0, 1, 2)), rng.randrange(1, pair.longest + 1))]
            every = rng.randrange(1, 65)
            desks = [Desk(machine, world, every=every, fast=maker) for maker in (None, (pair, rng.randrange(1, 9), "idle", plan))]
            for _ in range(15):
                call = rng.choice((("stand_at", rng.randrange(world.moment, 70)), ("back", rng.randrange(desks[0].here.moment + 1)),
                                   ("put_cell", rng.randrange(16), rng.randrange(16)),
                                   ("tried", rng.randrange(world.moment, 70), rng.randrange(16), rng.randrange(16))))
                told = [getattr(desk, call[0])(*call[1:]) for desk in desks]
                self.assertEqual(told[0], told[1])
                self.assertEqual((desks[0].here, desks[0].gone, desks[0].kept_moments()),
                                 (desks[1].here, desks[1].gone, desks[1].kept_moments()))

    def test_a_handler_that_gives_a_right(self):
        forms = [("inc", ("000a",), [("get", "a"), ("num", 1), ("add", 0, 1), ("put", "a", 2)]),
                 ("jmp", ("0010", "nnnn"), [("num", "n"), ("goto", 0)]), ("ld", ("0011",), [("get", 0), ("read", 0), ("put", 1, 1)]),
                 ("st", ("0100",), [("get", 0), ("get", 1), ("write", 0, 1)]), ("say", ("0101",), [("get", 1), ("out", 0, 0)]),
                 ("page", ("1000", "nnnn"), [("num", "n"), ("put", 2, 0), ("out", 3, 0)]),
                 ("give", ("1001", "nnnn"), [("num", "n"), ("out", 4, 0), ("put", 3, 0)]), ("back", ("1010",), [("in", 3), ("goto", 0)])]
        book = Book(4, 4, forms)
        rng = random.Random(227)
        met = 0
        for _ in range(160):
            page, lacks = rng.randrange(0, 5), rng.choice((1, 2, 4))
            program = []
            while len(program) < 7:
                program.append(rng.choice((("inc", (0,)), ("inc", (0,)), ("inc", (1,)), ("ld", ()), ("st", ()), ("say", ()))))
            source = [("label", "top")] + program + [("jmp", ("top",))] + [("word", 0)]
            source += [("page", (page,)), ("give", (7,)), ("back", ())]
            cells = assembled(book, source)
            machine = Machine(book)
            whole = start(machine, cells, (0,), vectors=(10,))
            rights = tuple(7 - lacks if at == page else 7 for at in range(8))
            worlds = [list(trail(machine, start(machine, cells, (0,), rights=own, vectors=(10,)), 60)) for own in ((7,) * 8, rights)]
            self.assertEqual(worlds[0][0], whole)
            faults = worlds[1][-1].noted
            handlers = {one.cells[10:15] for run_through in worlds for one in run_through}
            if len(faults) != 1 or worlds[0][-1].noted or len(handlers) > 1:
                continue
            if max(one.processors[0].place for one in worlds[0]) >= 10:
                # The program has written over its jump and runs into the handler.
                continue
            self.assertIn(faults[0][2], (8, 10, 11))
            met += 1
            at = faults[0][0]
            for moment in range(at, 55):
                one, other = worlds[0][moment], worlds[1][moment + 4]
                self.assertEqual((one.cells, one.processors[0].regs[:2], one.processors[0].place),
                                 (other.cells, other.processors[0].regs[:2], other.processors[0].place))
                self.assertEqual([word for _, _, word in one.shown], [word for _, _, word in other.shown])
            pair = long_pair(rng, book, 1)
            fast = Fast(machine, pair, worlds[1][0], plan=[(2, 8)])
            self.assertEqual(fast.run(50), worlds[1][50])
        self.assertGreater(met, 10)

    def test_a_row_that_is_let_by_runs_in_every_machine(self):
        rng = random.Random(212)
        for _ in range(60):
            book = BOOKS[4]
            pair = drawn_pair(rng, book)
            machine = drawn_machine(rng, 4, book=book)
            worlds = worlds_of(machine, drawn_start(rng, machine), 60)
            fast = Fast(machine, pair, worlds[0], **drawn_ways(rng, machine, pair, worlds))
            fast.run(60)
            lying = [(fast.store.road_at(entry), fast.store.row_at(entry)) for entry in fast.store.entries()]
            # The same image on a machine of another depth, turns and events.
            other = drawn_machine(rng, 4, book=book)
            world = start(other, fast.world.cells, [rng.randrange(16) for _ in range(other.processors)])
            offers = [(road.places, row) for road, row in lying]
            again = Fast(other, pair, world, plan=[(3, 1)], offers=offers)
            self.assertEqual(again.run(60), run(other, world, 60))


if __name__ == "__main__":
    unittest.main()

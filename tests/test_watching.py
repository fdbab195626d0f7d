"""Watching and mending stores, good rows, and keeping old roads ([153] to [155], [216], [221], [228])."""

import random
import unittest

from helpers import refusal
from plain import BOOKS, drawn_image, drawn_machine, drawn_start
from riding import drawn_pair, long_pair
from rowing import drawn_road, first_unlike, or_too_many, row_run, road_run, spoiled
from selfwritten.books import Book
from selfwritten.happenings import happen, start
from selfwritten.linking import force, links_of
from selfwritten.letting import is_let_by_judge
from selfwritten.machines import Machine
from selfwritten.mending import good_row, keeping, mend
from selfwritten.roads import again, along, holds, is_fresh, road_of, straight
from selfwritten.rows import Row
from selfwritten.stores import Store
from selfwritten.templates import template
from selfwritten.trimming import trimmed
from selfwritten.watching import looked_at, watch
from selfwritten.worlds import with_cell
from worldly import machine_of

ROW = Row([("end",)], [("num", 0)], [(0, 0), (0, 0)])


def drawn_lying(rng, machine, pair, world, store, spoil=0.3):
    """Puts drawn roads of the world into the store; some rows are spoiled."""
    for _ in range(rng.randrange(1, 12)):
        entry = rng.randrange(2 ** machine.word)
        if rng.random() < 0.7:
            road = straight(machine, world, entry, rng.randrange(1, 9))
        else:
            places = [entry]
            for _ in range(rng.randrange(5)):
                places.append((places[-1] + rng.choice((1, 1, 2, 3))) % 2 ** machine.word)
            road = along(machine, world, places)
        if road is not None:
            row = rng.choice((template, trimmed))(pair, road)
            store.put(road, spoiled(rng, pair, row) if rng.random() < spoil else row)


class Watching(unittest.TestCase):
    def test_throws_out_exactly_what_does_not_hold(self):
        rng = random.Random(153)
        thrown = 0
        for _ in range(250):
            machine = drawn_machine(rng, 4)
            pair = drawn_pair(rng, machine.book)
            world = drawn_start(rng, machine)
            store = Store(rng.randrange(1, 9))
            drawn_lying(rng, machine, pair, world, store)
            for _ in range(3):
                x, page = rng.randrange(16), rng.randrange(8)
                after = with_cell(world, x, rng.randrange(16))
                if rng.random() < 0.4:
                    after = happen(machine, after, ("rights", page, rng.randrange(8)))
                roads = [store.road_at(entry) for entry in store.entries()]
                orders = (store.made_order(), store.used_order())
                looks = dict(looked_at(store))
                gone = watch(machine, after, store)
                self.assertEqual(gone, tuple(road.entry for road in roads if not holds(after, road)))
                self.assertEqual(store.entries(), tuple(road.entry for road in roads if holds(after, road)))
                self.assertEqual((store.made_order(), store.used_order()),
                                 tuple(tuple(one for one in order if one not in gone) for order in orders))
                if after.rights == world.rights:
                    self.assertEqual(set(gone), set(looks.get(x, ())) if after.cells != world.cells else set())
                self.assertEqual(watch(machine, after, store), ())
                thrown += len(gone)
                world = after
        self.assertGreater(thrown, 100)

    def test_a_change_that_no_look_names(self):
        machine = machine_of(8)
        world = start(machine, (0, 0, 0, 5), (0,))
        store = Store(3)
        for entry, longest in ((0, 1), (1, 2), (2, 8)):
            store.put(straight(machine, world, entry, longest), ROW)
        self.assertEqual(looked_at(store), ((0, (0,)), (1, (1,)), (2, (1, 2)), (3, (2,))))
        for x in range(4, 256):
            self.assertEqual(watch(machine, with_cell(world, x, 7), store), ())
        road = store.road_at(2)
        self.assertEqual(straight(machine, with_cell(world, 9, 9), 2, 8), road)
        self.assertEqual(watch(machine, with_cell(world, 3, 6), store), (2,))
        self.assertEqual(watch(machine, with_cell(world, 2, 6), store), (1,))
        self.assertEqual(looked_at(store), ((0, (0,)),))

    def test_links_go_with_their_roads(self):
        machine = machine_of()
        world = start(machine, (), (0,))
        store = Store(3)
        for entry in (0, 4, 8):
            store.put(straight(machine, world, entry, 1), ROW)
        for link in ((0, 4), (4, 8), (8, 8), (8, 0)):
            force(store, *link)
        self.assertEqual(watch(machine, with_cell(world, 0, 1), store), (0,))
        self.assertEqual(links_of(store), ((4, 8), (8, 8)))

    def test_a_road_of_another_image_or_of_wider_words(self):
        machine, wide = machine_of(), machine_of(8)
        store = Store(8)
        small, large = start(machine, (), (0,)), start(wide, (), (0,))
        store.put(straight(wide, large, 14, 8), ROW)
        store.put(straight(wide, large, 200, 1), ROW)
        store.put(straight(machine, small, 14, 8), ROW)
        self.assertEqual(store.entries(), (14, 200))
        self.assertEqual(watch(machine, small, store), (200,))
        self.assertEqual(watch(wide, large, store), ())

    def test_refused(self):
        machine, pair = machine_of(), long_pair(random.Random(0), machine_of().book, 1)
        world, other = start(machine, (), (0,)), start(machine_of(5), (), (0,))
        store = Store(2)
        road = straight(machine, world, 0, 1)
        store.put(road, ROW)
        force(store, 3, 4)
        for wrong in (None, other, world.changed(left=9)):
            self.assertEqual(refusal(watch, machine, wrong, store), ("BadWorld", "world"))
            self.assertEqual(refusal(mend, machine, pair, wrong, store), ("BadWorld", "world"))
            self.assertEqual(refusal(keeping, machine, pair, wrong, road, ROW), ("BadWorld", "world"))
        self.assertEqual((store.entries(), links_of(store)), ((0,), ((3, 4),)))


class Good(unittest.TestCase):
    def test_against_template_trimmed_and_judge(self):
        rng = random.Random(154)
        told = {True: 0, False: 0}
        for _ in range(250):
            book = BOOKS[4]
            pair = drawn_pair(rng, book)
            road = drawn_road(rng, book, rng.randrange(1, 9))
            row = rng.choice((template, trimmed))(pair, road)
            for _ in range(rng.randrange(3)):
                row = spoiled(rng, pair, row)
            if rng.random() < 0.1:
                row = template(pair, drawn_road(rng, book, len(road), road.entry))
            wanted = len(road) <= pair.longest and (row in (template(pair, road), trimmed(pair, road))
                                                    or is_let_by_judge(pair, road, row))
            self.assertIs(good_row(pair, road, row), wanted)
            told[wanted] += 1
        self.assertGreater(min(told.values()), 40)

    def test_a_road_that_is_too_long(self):
        book = Book(4, 1, [("nop", ("0000",), ())])
        for longest in range(1, 9):
            pair = long_pair(random.Random(0), book, 1, longest=longest)
            for many in range(1, 9):
                road = road_of(book, [(at, ("nop", ())) for at in range(many)])
                for row in (template(pair, road), trimmed(pair, road)):
                    self.assertIs(good_row(pair, road, row), many <= longest)

    def test_dear_unlike_and_without_room(self):
        book = Book(4, 1, [("inc", ("0001",), [("get", 0), ("num", 1), ("add", 0, 1), ("put", 0, 2)])])
        pair = long_pair(random.Random(0), book, 1, longest=2)
        road = road_of(book, [(0, ("inc", ()))])
        late = [("slot", 0), ("num", 0), ("num", 1), ("add", 0, 2)]
        rows = {"good": Row([("end",)], late, [(1, 0), (2, 3)]), "unlike": Row([("end",)], late, [(1, 0), (2, 0)]),
                "dear": Row([("load", 0, 0)] * 11 + [("end",)], late, [(1, 0), (2, 3)]),
                "room": Row([("load", 0, pair.r), ("end",)], late, [(1, 0), (2, 3)]),
                "hands": Row([("tick",), ("end",)], late, [(1, 0), (2, 3), (2, 3)]),
                "registers": Row([("load", 7, 0), ("end",)], late, [(1, 0), (2, 3)])}
        self.assertEqual({name: good_row(pair, road, row) for name, row in rows.items()},
                         {name: name == "good" for name in rows})


class Mending(unittest.TestCase):
    def test_stores_that_hold_anything(self):
        rng = random.Random(1154)
        kept = gone = 0
        for _ in range(150):
            machine = drawn_machine(rng, 4, book=BOOKS[4])
            pair = drawn_pair(rng, machine.book)
            worlds = [drawn_start(rng, machine)]
            worlds.append(with_cell(worlds[0], rng.randrange(16), rng.randrange(16)))
            worlds.append(drawn_start(rng, machine))
            store = Store(rng.randrange(1, 9))
            for world in worlds:
                drawn_lying(rng, machine, pair, world, store)
            if rng.random() < 0.5:
                store.put(drawn_road(rng, machine.book, 2), ROW)
            if rng.random() < 0.3:
                large = Machine(BOOKS[8])
                road = straight(large, start(large, drawn_image(rng, large), (0,)), rng.randrange(256), 3)
                if road is not None:
                    store.put(road, ROW)
            for _ in range(6):
                force(store, rng.randrange(16), rng.choice(store.entries()))
            world = rng.choice(worlds)
            before = {entry: (store.road_at(entry), store.row_at(entry)) for entry in store.entries()}
            links, orders = links_of(store), (store.made_order(), store.used_order())
            out = mend(machine, pair, world, store)
            stay = [entry for entry, (road, row) in before.items()
                    if is_fresh(machine, world, road) and good_row(pair, road, row)]
            self.assertEqual(store.entries(), tuple(stay))
            self.assertEqual(out, tuple(entry for entry in before if entry not in stay))
            self.assertEqual(links_of(store), tuple(link for link in links if set(link) <= set(stay)))
            self.assertEqual((store.made_order(), store.used_order()),
                             tuple(tuple(one for one in order if one in stay) for order in orders))
            state = (store.entries(), links_of(store), store.made_order(), store.used_order())
            self.assertEqual(mend(machine, pair, world, store), ())
            self.assertEqual(state, (store.entries(), links_of(store), store.made_order(), store.used_order()))
            kept, gone = kept + len(stay), gone + len(out)
        self.assertGreater(min(kept, gone), 60)

    def test_a_store_of_one_image_used_with_another(self):
        rng = random.Random(228)
        stayed = 0
        for _ in range(120):
            machine = drawn_machine(rng, 4, book=BOOKS[4])
            pair = drawn_pair(rng, machine.book, longest=8)
            world = drawn_start(rng, machine)
            other = world
            for _ in range(rng.randrange(1, 5)):
                other = with_cell(other, rng.randrange(16), rng.randrange(16))
            store = Store(8)
            drawn_lying(rng, machine, pair, world, store, spoil=0)
            wanted = tuple(entry for entry in store.entries() if holds(other, store.road_at(entry)))
            watch(machine, other, store)
            self.assertEqual(store.entries(), wanted)
            self.assertEqual((mend(machine, pair, other, store), store.entries()), ((), wanted))
            stayed += len(wanted)
        self.assertGreater(stayed, 100)


class Keeping(unittest.TestCase):
    def test_each_answer_against_runs(self):
        rng = random.Random(155)
        told = {"fresh": 0, "gone": 0, "same": 0, "unlike": 0, "TooMany": 0}
        for _ in range(600):
            machine = drawn_machine(rng, 4, book=BOOKS[4])
            pair = drawn_pair(rng, machine.book, longest=8)
            world = drawn_start(rng, machine)
            entry = rng.randrange(16)
            places = [(entry + at) % 16 for at in range(rng.randrange(1, 4))]
            road = rng.choice((straight(machine, world, entry, rng.randrange(1, 5)), along(machine, world, places)))
            if road is None:
                continue
            row = rng.choice((template, trimmed))(pair, road)
            after = with_cell(world, rng.choice(road.places + ((road.places[-1] + 1) % 16,)), rng.randrange(16))
            found = or_too_many(keeping, machine, pair, after, road, row)
            told[found if found == "TooMany" else found[0]] += 1
            made = again(machine, after, road)
            if made is None:
                self.assertEqual(found, ("gone", None))
            elif made == road:
                self.assertEqual(found, ("fresh", None))
            elif found != "TooMany":
                pairs = list(made)
                if found[0] == "unlike":
                    regs, answers = found[1]
                    self.assertNotEqual(row_run(pair, row, road.entry, regs, answers)[:2],
                                        road_run(machine.book, pairs, regs, answers)[0])
                else:
                    self.assertEqual(found, ("same", None))
                    for _ in range(60):
                        regs = tuple(rng.randrange(16) for _ in range(2))
                        answers = [rng.randrange(16) for _ in range(rng.randrange(20))]
                        self.assertEqual(row_run(pair, row, road.entry, regs, answers)[:2],
                                         road_run(machine.book, pairs, regs, answers)[0])
        for name in ("fresh", "gone", "same", "unlike"):
            self.assertGreater(told[name], 1, told)

    def test_a_row_that_suits_the_new_road(self):
        # The old road is one instruction longer; the row is that of the new one.
        machine = machine_of()
        pair = long_pair(random.Random(0), machine.book, 1)
        world = start(machine, (0, 0, 5), (0,))
        old = straight(machine, world, 0, 4)
        after = with_cell(world, 1, 7)
        new = straight(machine, after, 0, 4)
        self.assertEqual(keeping(machine, pair, after, old, template(pair, new)), ("same", None))
        self.assertEqual(keeping(machine, pair, after, old, template(pair, old))[0], "unlike")
        self.assertEqual(keeping(machine, pair, world, old, ROW), ("fresh", None))

    def test_places_beyond_the_world(self):
        wide, machine = machine_of(8), machine_of()
        pair = long_pair(random.Random(0), machine.book, 1)
        road = straight(wide, start(wide, (), (0,)), 100, 2)
        self.assertEqual(keeping(machine, pair, start(machine, (), (0,)), road, ROW), ("gone", None))


if __name__ == "__main__":
    unittest.main()

"""Roads: how they are made, and whether they hold, are fresh, and are there ([106] to [109])."""

import random
import unittest

from helpers import WRONG_NUMBERS, WRONG_ROWS, refusal
from model import code_of
from plain import BOOKS, Plain, drawn_machine, drawn_start
from selfwritten.books import Book
from selfwritten.happenings import happen, start
from selfwritten.machines import Machine
from selfwritten.memory import write_by
from selfwritten.roads import Road, again, along, holds, is_fresh, is_there, road_of, straight
from selfwritten.worlds import with_cell
from worldly import machine_of

BOOK = BOOKS[4]
NOP, INCR = ("nop", ()), ("incr", ())


def jmp(place):
    return ("jmp", (place,))


def made(cells, entry, longest=8, rights=(7,) * 8, depth=0):
    machine = Machine(BOOK, depth=depth)
    return straight(machine, start(machine, cells, (0,), rights=rights), entry, longest)


def made_along(cells, places, rights=(7,) * 8):
    machine = Machine(BOOK)
    return along(machine, start(machine, cells, (0,), rights=rights), places)


def own_straight(machine, world, entry, longest):
    """What [107] says: pairs and looks."""
    plain, pairs, looks, place = Plain(machine, world), [], [], entry
    while len(pairs) < longest:
        found, more, _ = plain.fetch(place)
        looks += more
        if found is None:
            break
        pairs.append((place, found))
        if any(line[0] == "goto" for line in found[0].lines):
            break
        place = (place + len(found[1])) % plain.size
    return pairs, looks


def own_along(machine, world, places):
    """What [108] says: pairs and looks."""
    plain, pairs, looks, after = Plain(machine, world), [], [], None
    for place in places:
        if after is not None and place != after:
            break
        found, more, _ = plain.fetch(place)
        looks += more
        if found is None:
            break
        pairs.append((place, found))
        after = (place + len(found[1])) % plain.size
        if any(line[0] == "goto" for line in found[0].lines):
            after = None
    return pairs, looks


class Straight(unittest.TestCase):
    def test_up_to_the_length(self):
        for longest in range(1, 9):
            road = made((0, 1, 2, 5), 0, longest)
            wanted = [(0, NOP), (1, INCR), (2, ("set", (0, 5))), (4, NOP), (5, NOP), (6, NOP), (7, NOP), (8, NOP)]
            self.assertEqual(list(road), wanted[:longest])
            self.assertEqual(len(road.looks), 2 * (longest + (longest > 2)))
            self.assertEqual(road.way, ("straight", longest))

    def test_behind_a_goto(self):
        road = made((0, 4, 9, 1), 0)
        self.assertEqual(list(road), [(0, NOP), (1, jmp(9))])
        self.assertEqual(road.looks[-2:], (("go", 1, 1), ("cell", 2, 9)))
        self.assertEqual(list(made((4, 0), 0)), [(0, jmp(0))])

    def test_ahead_of_a_fault(self):
        road = made((0, 14, 1), 0)
        self.assertEqual((list(road), road.looks), ([(0, NOP)], (("go", 0, 1), ("cell", 0, 0), ("go", 0, 1), ("cell", 1, 14))))
        road = made((0, 1, 1), 0, rights=[7, 6] + [7] * 6)
        self.assertEqual(road.looks, (("go", 0, 1), ("cell", 0, 0), ("go", 0, 1), ("cell", 1, 1), ("go", 1, 0)))
        # A fault behind the length, or behind a goto, is not looked at.
        self.assertEqual(len(made((0, 14), 0, 1).looks), 2)

    def test_no_road(self):
        self.assertIsNone(made((14,), 0))
        self.assertIsNone(made((8, 15), 0))
        self.assertIsNone(made((0,), 0, rights=[6] + [7] * 7))

    def test_behind_the_address_of_all_ones(self):
        road = made([0] * 14 + [1, 2], 14, 3)
        self.assertEqual(list(road), [(14, INCR), (15, ("set", (0, 0))), (1, NOP)])
        self.assertEqual((road.entry, road.places, road.instructions), (14, (14, 15, 1), (INCR, ("set", (0, 0)), NOP)))

    def test_drawn(self):
        rng = random.Random(107)
        lengths = set()
        for number in range(120):
            machine = drawn_machine(rng, (4, 8)[number % 3 == 2])
            world = drawn_start(rng, machine)
            for _ in range(6):
                entry, longest = rng.randrange(2 ** machine.word), rng.randrange(1, 9)
                pairs, looks = own_straight(machine, world, entry, longest)
                road = straight(machine, world, entry, longest)
                self.same(road, pairs, looks, ("straight", longest))
                lengths.add(len(pairs))
                places = [rng.randrange(2 ** machine.word) for _ in range(rng.randrange(1, 9))]
                if road is not None:
                    more = [number[0] for _, (_, number) in road if number] + places
                    places = [*road.places, rng.choice(more), *places][:rng.randrange(1, 9)]
                pairs, looks = own_along(machine, world, places)
                self.same(along(machine, world, places), pairs, looks, ("along", tuple(places)))
        self.assertEqual(lengths, set(range(9)))

    def same(self, road, pairs, looks, way):
        if not pairs:
            self.assertIsNone(road)
            return
        self.assertEqual([place for place, _ in road], [place for place, _ in pairs])
        for (_, (name, numbers)), (_, (form, cells)) in zip(road, pairs):
            self.assertEqual((name, code_of(form, numbers)), (form.name, tuple(cells)))
        self.assertEqual((road.looks, road.way, len(road)), (tuple(looks), way, len(pairs)))

    def test_refused(self):
        machine = Machine(BOOK)
        world = start(machine, (), (0,))
        for entry in (16, -1, *WRONG_NUMBERS):
            self.assertEqual(refusal(straight, machine, world, entry, 0), ("BadNumber", "entry"))
        for longest in (0, 9, -1, *WRONG_NUMBERS):
            self.assertEqual(refusal(straight, machine, world, 15, longest), ("BadNumber", "longest"))
        self.assertEqual(refusal(straight, machine, None, -1, 0), ("BadWorld", "world"))
        self.assertEqual(refusal(straight, machine_of(processors=2), world, -1, 0), ("BadWorld", "world"))


class Along(unittest.TestCase):
    def test_places_behind_a_goto_may_be_any(self):
        road = made_along((0, 4, 9, 1), (0, 1, 3, 4))
        self.assertEqual(list(road), [(0, NOP), (1, jmp(9)), (3, INCR), (4, NOP)])
        self.assertEqual(road.way, ("along", (0, 1, 3, 4)))
        road = made_along((0, 4, 9), (1, 0, 1, 1, 0, 1, 0, 1))
        self.assertEqual(road.places, (1, 0, 1, 1, 0, 1, 0, 1))

    def test_it_ends_without_looking_ahead_of_a_place_that_is_not_the_next(self):
        road = made_along((0, 0), (0, 2, 3))
        self.assertEqual((list(road), len(road.looks), road.way), ([(0, NOP)], 2, ("along", (0, 2, 3))))
        self.assertEqual(made_along((2, 0, 0), [0, 2, 3]).places, (0, 2, 3))
        self.assertEqual(made_along((2, 0, 0), [0, 1, 2]).places, (0,))
        self.assertEqual(made_along((0,), [15, 0, 1]).places, (15, 0, 1))

    def test_ahead_of_a_fault(self):
        road = made_along((0, 14), (0, 1, 2))
        self.assertEqual((road.places, len(road.looks)), ((0,), 4))
        road = made_along((4, 9, 14), (0, 2, 3))
        self.assertEqual((road.places, road.looks[-1]), ((0,), ("cell", 2, 14)))
        self.assertIsNone(made_along((14,), (0, 1)))

    def test_refused(self):
        machine = Machine(BOOK)
        world = start(machine, (), (0,))
        for places in WRONG_ROWS:
            self.assertEqual(refusal(along, machine, world, places), ("BadWords", -1))
        for place in (16, -1, *WRONG_NUMBERS):
            self.assertEqual(refusal(along, machine, world, [0, 1, place, -1]), ("BadWords", 2))
            self.assertEqual(refusal(along, machine, world, [0] * 9 + [place]), ("BadWords", 9))
        for places in ((), (0,) * 9):
            self.assertEqual(refusal(along, machine, world, places), ("BadWords", -1))
        self.assertEqual(refusal(along, machine, 0, None), ("BadWorld", "world"))


class Told(unittest.TestCase):
    """road_of."""

    def test_a_road_without_looks(self):
        pairs = [[15, ["set", [1, 3]]], (1, NOP), (2, jmp(7)), (9, NOP)]
        road = road_of(BOOK, pairs)
        self.assertEqual(list(road), [(15, ("set", (1, 3))), (1, NOP), (2, jmp(7)), (9, NOP)])
        self.assertEqual((road.looks, road.way, road.entry), ((), ("along", (15, 1, 2, 9)), 15))
        pairs[0][1][1][0] = 0
        self.assertEqual(road.instructions[0], ("set", (1, 3)))

    def test_of_one_and_of_eight_instructions(self):
        for many in (1, 8):
            self.assertEqual(len(road_of(BOOK, [(0, jmp(0))] * many)), many)

    def test_refused(self):
        for pairs in (*WRONG_ROWS, (), [(0, jmp(0))] * 9):
            self.assertEqual(refusal(road_of, BOOK, pairs), ("BadSource", 0))
        wrong = [*WRONG_ROWS, (), (3,), (3, NOP, 0), (16, NOP), (-1, NOP), (True, NOP), (None, NOP), (3, None), (3, "nop"),
                 (3, ("nop",)), (3, ("odd", ())), (3, ("nop", (0,))), (3, ("jmp", ())), (3, ("jmp", (16,))),
                 (3, ("jmp", ("a",))), (3, ("nop", (), 0)), (3, (None, ())), (3, (["nop"], ()))]
        for pair in wrong:
            self.assertEqual(refusal(road_of, BOOK, [(2, jmp(0)), pair, None]), ("BadSource", 1), pair)
            self.assertEqual(refusal(road_of, BOOK, [pair]), ("BadSource", 0), pair)
        for place in range(16):
            told = refusal(road_of, BOOK, [(13, NOP), (14, ("set", (0, 0))), (place, NOP)])
            self.assertEqual(told, None if place == 0 else ("BadSource", 2))

    def test_it_holds_everywhere_and_is_never_fresh(self):
        rng = random.Random(109)
        for _ in range(40):
            machine = Machine(BOOK)
            world = drawn_start(rng, machine)
            road = road_of(BOOK, [(0, NOP), (1, jmp(4)), (4, INCR)])
            for own in (world, start(machine, (0, 4, 4, 0, 1), (0,)), start(machine, (0, 4, 4, 0, 1), (0,), rights=(0,) * 8)):
                self.assertIs(holds(own, road), True)
                self.assertIs(is_fresh(machine, own, road), False)
            self.assertIs(is_there(machine, start(machine, (0, 4, 4, 0, 1), (0,)), road), True)
            self.assertIs(is_there(machine, start(machine, (0, 4, 5, 0, 1), (0,)), road), False)


class Objects(unittest.TestCase):
    def test_equal(self):
        road = made((0, 1, 14), 0, 3)
        self.assertIsInstance(road, Road)
        self.assertTrue(road == made((0, 1, 14, 5), 0, 3))
        for other in (made((0, 1, 14), 0, 4), made((0, 1, 15), 0, 3), made((0, 0, 14), 0, 3), made_along((0, 1), (0, 1)),
                      made((0, 0, 1, 14), 1, 3), None, 3, list(road)):
            self.assertFalse(road == other)
        self.assertTrue(made_along((0, 1, 14), (0, 1)) == made_along((0, 1, 13), (0, 1)))
        self.assertFalse(made_along((0, 1, 14), (0, 1)) == made_along((0, 1, 13), (0, 1, 3)))

    def test_entry_is_a_property(self):
        self.assertIsInstance(vars(Road)["entry"], property)
        self.assertEqual(made((0,) * 9, 9, 2).entry, 9)


class Fresh(unittest.TestCase):
    def changed(self, rng, machine, world):
        """A world in which a few cells or rights have changed."""
        size = 2 ** machine.word
        for _ in range(rng.randrange(1, 4)):
            if rng.random() < 0.6:
                world = with_cell(world, rng.randrange(size), rng.choice((0, 1, rng.randrange(size))))
            else:
                world = happen(machine, world, ("rights", rng.randrange(8), rng.choice((1, 3, 5, 6, 7, 0))))
        return world

    def test_fresh_exactly_if_it_holds(self):
        rng = random.Random(1090)
        told = {True: 0, False: 0}
        there = {True: 0, False: 0}
        for _ in range(150):
            machine = drawn_machine(rng, 4, book=BOOK)
            world = drawn_start(rng, machine)
            roads = [straight(machine, world, rng.randrange(16), rng.randrange(1, 9)) for _ in range(3)]
            roads += [along(machine, world, [*road.places, rng.randrange(16)][:8]) for road in roads if road is not None]
            for road in roads:
                if road is None:
                    continue
                self.assertIs(holds(world, road), True)
                self.assertIs(is_fresh(machine, world, road), True)
                self.assertIs(is_there(machine, world, road), True)
                self.assertTrue(again(machine, world, road) == road)
                for _ in range(4):
                    other = self.changed(rng, machine, world)
                    fresh = is_fresh(machine, other, road)
                    told[fresh] += 1
                    self.assertIs(holds(other, road), fresh)
                    self.assertIs(is_there(machine, other, road), self.own_there(machine, other, road))
                    there[is_there(machine, other, road)] += not fresh
                    if fresh:
                        self.assertTrue(is_there(machine, other, road))
                    now = again(machine, other, road)
                    made_now = (straight(machine, other, road.entry, road.way[1]) if road.way[0] == "straight"
                                else along(machine, other, road.way[1]))
                    self.assertTrue(now == made_now)
        self.assertGreater(min(told.values()), 100)
        self.assertGreater(min(there.values()), 20)

    def own_there(self, machine, world, road):
        """Whether from each place on the cells hold the code, on pages that may be fetched from."""
        for place, (name, numbers) in road:
            form = [form for form in machine.book.forms if form.name == name][0]
            for at, cell in enumerate(code_of(form, numbers)):
                x = (place + at) % 16
                if world.cells[x] != cell or world.rights[x // 2] % 2 == 0:
                    return False
        return True

    def test_a_look_behind_the_end_that_changes(self):
        machine = Machine(BOOK)
        world = start(machine, (0, 1, 14, 9), (0,))
        road = straight(machine, world, 0, 8)
        for other, fresh in ((with_cell(world, 2, 13), False), (with_cell(world, 2, 0), False),
                             (with_cell(world, 3, 0), True), (happen(machine, world, ("rights", 1, 6)), False),
                             (happen(machine, world, ("rights", 1, 1)), True), (happen(machine, world, ("rights", 2, 0)), True)):
            self.assertEqual([is_fresh(machine, other, road), holds(other, road), is_there(machine, other, road)],
                             [fresh, fresh, True])
        other = with_cell(world, 2, 0)
        self.assertEqual(len(again(machine, other, road)), 8)
        self.assertIsNone(again(machine, with_cell(world, 0, 14), road))

    def test_a_right_that_was_missing(self):
        machine = Machine(BOOK)
        world = start(machine, (0, 1), (0,), rights=[7, 6] + [7] * 6)
        road = straight(machine, world, 0, 8)
        self.assertEqual(road.looks[-1], ("go", 1, 0))
        self.assertIs(holds(happen(machine, world, ("rights", 1, 4)), road), True)
        self.assertIs(holds(happen(machine, world, ("rights", 1, 1)), road), False)

    def test_waiting_writes_change_nothing(self):
        machine = Machine(BOOK, depth=1)
        world = start(machine, (0, 1, 14), (0,))
        road = straight(machine, world, 0, 8)
        after = write_by(machine, world, 0, 1, 14)
        self.assertIs(is_fresh(machine, after, road), True)
        self.assertIs(is_fresh(machine, write_by(machine, after, 0, 9, 9), road), False)

    def test_addresses_that_the_world_has_not(self):
        forms = [("nop", ("0000",), ()), ("jmp", ("0100", "nnnn"), [("num", "n"), ("goto", 0)])]
        wide = Machine(Book(5, 1, [(name, ["0" + pattern for pattern in patterns], lines) for name, patterns, lines in forms]))
        small = Machine(Book(4, 1, forms))
        here = start(small, (0, 4, 3), (0,))
        world = start(wide, (0, 4, 3) + (0,) * 13 + (0, 14), (0,))
        road = straight(wide, world, 0, 8)
        self.assertEqual((holds(here, road), is_there(small, here, road)), (True, True))
        # Made now it has the looks at other pages.
        self.assertFalse(is_fresh(small, here, road))
        # An entry, a look, a place, and a told place behind the end.
        far = straight(wide, world, 16, 8)
        self.assertEqual(far.places, (16,))
        self.assertEqual((again(small, here, far), holds(here, far), is_there(small, here, far), is_fresh(small, here, far)),
                         (None, False, False, False))
        road = straight(wide, world, 15, 8)
        self.assertEqual(again(small, here, road).places, (15, 0, 1))
        self.assertEqual((holds(here, road), is_there(small, here, road)), (False, False))
        road = along(wide, world, (0, 1, 3, 20))
        self.assertEqual(road.places, (0, 1, 3))
        self.assertEqual((again(small, here, road), holds(here, road), is_there(small, here, road), is_fresh(small, here, road)),
                         (None, True, True, False))
        road = road_of(wide.book, [(0, ("jmp", (3,))), (16, ("nop", ()))])
        self.assertEqual((holds(here, road), is_there(small, start(small, (4, 3), (0,)), road)), (True, False))

    def test_refused(self):
        machine = Machine(BOOK)
        world = start(machine, (), (0,))
        road = straight(machine, world, 0, 2)
        other = machine_of(word=5, registers=2)
        for call in (again, is_fresh, is_there):
            self.assertEqual(refusal(call, other, world, road), ("BadWorld", "world"))
            self.assertEqual(refusal(call, machine, None, road), ("BadWorld", "world"))


if __name__ == "__main__":
    unittest.main()

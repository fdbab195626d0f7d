"""House rows that are let by ([128], [129], [212], [222], [224])."""

import random
import unittest

from helpers import OPS, refusal
from housing import drawn_house, house_of
from plain import BOOKS, drawn_machine, drawn_start, let_by_book
from rowing import all_answers, drawn_road, first_unlike, or_too_many, reads_of, registers_below, road_run, row_run, spoiled
from selfwritten.books import Book
from selfwritten.closing import closed, faulted
from selfwritten.joins import beginning
from selfwritten.judging import judged
from selfwritten.letting import dear_at, is_let_by_judge, let_by
from selfwritten.pairs import Pair
from selfwritten.pools import Pool
from selfwritten.ports import asked
from selfwritten.roads import holds, road_of, straight
from selfwritten.roadsteps import drive, stops
from selfwritten.rowruns import Running
from selfwritten.rows import Row, price
from selfwritten.runs import run
from selfwritten.sketches import sketch_of_row
from selfwritten.templates import base, template
from selfwritten.worlds import is_over, placed, turn_of

INC = ("inc", ("0001",), [("get", 0), ("num", 1), ("add", 0, 1), ("put", 0, 2)])
LD = ("ld", ("0010",), [("get", 0), ("read", 0), ("put", 0, 1)])
LATE = [("slot", 0), ("num", 0), ("num", 1), ("add", 0, 2)]
HANDS = [(1, 0), (2, 3)]


def own_dear(pair, road, row):
    """What dear_at returns, reckoned apart."""
    ticks = 0
    for at, step in enumerate(row.steps):
        if step[0] not in ("order", "load", "save"):
            boundary = ticks + (step[0] in ("tick", "keep", "end"))
            named, waiting = set(), list(row.hands[boundary])
            while waiting:
                index = waiting.pop()
                if row.late[index][0] in OPS:
                    named.add(index)
                    waiting.extend(row.late[index][1:])
            most = sum(pair.cost(name) + 1 for name, _ in road.instructions[:ticks + 1])
            for i, (name, _) in enumerate(road.instructions[:ticks + 1]):
                goto = pair.book.form_named(name).goto is not None
                most += 2 if goto and i + 1 < len(road) else 0
            if at + 1 + len(named) > most:
                return at, at + 1 + len(named), most
        ticks += step == ("tick",)
    return None


class Reasons(unittest.TestCase):
    PAIR = Pair(Book(4, 1, [INC, LD]), house_of(4, 4, 3, ops=("add", "num")), longest=2)
    ROAD = road_of(PAIR.book, [(0, ("inc", ()))])

    def told(self, row, road=ROAD):
        told = refusal(let_by, self.PAIR, road, row)
        self.assertIs(is_let_by_judge(self.PAIR, road, row), told is None)
        return told

    def row(self, steps=(), late=LATE, hands=HANDS):
        return Row([*steps, ("end",)], late, hands)

    def test_let_by(self):
        self.assertIsNone(self.told(self.row()))
        self.assertIsNone(self.told(template(self.PAIR, self.ROAD)))
        self.assertIsNone(let_by(self.PAIR, self.ROAD, self.row()))

    def test_unlike(self):
        told = self.told(self.row(hands=[(1, 0), (2, 0)]))
        self.assertEqual((told[0], told[2]), ("Unlike", ()))
        told = self.told(self.row(hands=[(1, 0), (1, 3)]))
        self.assertEqual((told[0], told[2]), ("Unlike", ()))
        # The hand of boundary 0 is not looked at where no run leaves.
        self.assertIsNone(self.told(self.row(hands=[(3, 3), (2, 3)])))

    def test_the_row_must_fit_the_pair(self):
        row = self.row([("load", 3, 99)], hands=[(1, 0), (2, 0)])
        self.assertEqual(self.told(row), ("BadRow", 0))
        self.assertEqual(refusal(dear_at, self.PAIR, self.ROAD, row), ("BadRow", 0))
        row = self.row(late=LATE + [("num", 16)])
        self.assertEqual(self.told(row), ("BadRow", 5))
        row = self.row(hands=[(1, 0), (2, 3, 0)])
        self.assertEqual(self.told(row), ("BadRow", 6))

    def test_the_number_of_hands(self):
        row = self.row([("tick",), ("load", 0, 99)], hands=HANDS + [(2, 3)])
        self.assertEqual(self.told(row), ("BadRow", 7))
        self.assertEqual(refusal(dear_at, self.PAIR, self.ROAD, row), ("BadRow", 7))
        two = road_of(self.PAIR.book, [(0, ("inc", ())), (1, ("inc", ()))])
        self.assertEqual(self.told(self.row([("load", 0, 99)]), two), ("BadRow", 6))
        self.assertEqual(self.told(template(self.PAIR, two), two), None)

    def test_the_room(self):
        r = self.PAIR.r
        self.assertEqual(r, 11)
        for make in (lambda s: self.row([("load", 0, s)] + [("load", 0, 0)] * 20), lambda s: self.row([("save", s, 0)]),
                     lambda s: self.row(late=LATE + [("slot", s)])):
            if len(make(0).steps) < 9:
                self.assertIsNone(self.told(make(r - 1)))
            self.assertEqual(self.told(make(r)), ("NoRoom", r))
            self.assertEqual(self.told(make(r + 1000)), ("NoRoom", r + 1000))
        row = self.row([("load", 0, 50), ("save", 40, 0), ("load", 0, 3)], LATE + [("slot", 30), ("slot", 35)])
        self.assertEqual(self.told(row), ("NoRoom", 30))
        row = self.row([("load", 0, 50), ("save", 20, 0)], LATE + [("slot", 30)])
        self.assertEqual(self.told(row), ("NoRoom", 20))

    def test_the_price(self):
        # base(1) is 11, and the hand of the end is made of one operation.
        self.assertEqual(base(self.PAIR, self.ROAD, 1), 11)
        self.assertIsNone(self.told(self.row([("load", 0, 0)] * 9)))
        for many in (10, 30):
            row = self.row([("load", 0, 0)] * many)
            self.assertEqual(self.told(row), ("Dearer", many, many + 2, 11))
            self.assertEqual(dear_at(self.PAIR, self.ROAD, row), (many, many + 2, 11))
        self.assertIsNone(dear_at(self.PAIR, self.ROAD, self.row([("load", 0, 0)] * 9)))
        # A must that never leaves pays all the same, and the first one is told.
        steps = [("order", "fill", 0, 0, 0, 1)] * 10 + [("must", 0, 12)] * 3
        self.assertEqual(self.told(self.row(steps)), ("Dearer", 11, 12, 11))
        # Without the operation in the hand one step more may be done.
        row = self.row([("load", 0, 0)] * 10, hands=[(1, 0), (2, 0)])
        self.assertEqual((price(row, 10), dear_at(self.PAIR, self.ROAD, row), self.told(row)[0]), (11, None, "Unlike"))

    def test_unlike_stands_last(self):
        row = self.row([("load", 0, 0)] * 9, hands=[(1, 0), (2, 0)])
        self.assertEqual(self.told(row)[0], "Unlike")
        row = self.row([("load", 0, 0)] * 12, hands=[(1, 0), (2, 0)])
        self.assertEqual(self.told(row)[0], "Dearer")
        row = self.row([("load", 0, 99)] * 12, hands=[(1, 0), (2, 0)])
        self.assertEqual(self.told(row), ("NoRoom", 99))

    def test_too_many(self):
        reads = [("get", 0)] + [("read", 0)] * 10
        book = Book(4, 4, [("rd", ("0000",), reads)])
        pair = Pair(book, house_of(4, 4))
        road = road_of(book, [(at, ("rd", ())) for at in range(7)])
        row = template(pair, road)
        self.assertEqual(refusal(let_by, pair, road, row), ("TooMany", "unknowns"))
        self.assertIs(is_let_by_judge(pair, road, row), False)
        self.assertIsNone(dear_at(pair, road, row))

    def test_the_difference_is_at_the_entry(self):
        # At another entry the row would do the same.
        road = road_of(self.PAIR.book, [(5, ("inc", ()))])
        told = self.told(self.row(), road)
        self.assertEqual((told[0], told[2]), ("Unlike", ()))
        late = [("slot", 0), ("slot", 1), ("num", 1), ("add", 0, 2), ("add", 1, 2)]
        self.assertIsNone(self.told(self.row(late=late, hands=[(1, 0), (4, 3)]), road))


class LateOperations(unittest.TestCase):
    """Hands with late operations, at K = k and at K > k."""

    BOOK = Book(4, 2, [INC, LD, ("both", ("0011",), [("get", 0), ("get", 1), ("add", 0, 1), ("sub", 0, 1), ("put", 0, 2),
                                                     ("put", 1, 3)])])

    def told(self, width, late, hands, steps=(), road=((5, ("both", ())),)):
        pair = Pair(self.BOOK, house_of(4, width, 3, ops=("add", "sub", "num")))
        road = road_of(self.BOOK, road)
        row = Row([*steps, ("end",)], late, hands)
        return refusal(let_by, pair, road, row), price(row, len(steps))

    def test_with_and_without_a_mask(self):
        late = [("slot", 0), ("slot", 1), ("num", 6), ("add", 0, 1), ("sub", 0, 1), ("num", 15), ("and", 3, 5), ("and", 4, 5)]
        for width in (4, 5, 12):
            self.assertEqual(self.told(width, late, [(2, 0, 1), (2, 6, 7)]), (None, 5))
            for hand, many in (((2, 3, 7), 4), ((2, 6, 4), 4), ((2, 3, 4), 3)):
                told, cost = self.told(width, late, [(2, 0, 1), hand])
                self.assertEqual((cost, told is None), (many, width == 4))
                if told is not None:
                    (first, second), answers = told[1:]
                    wrong = (hand[1] == 3 and first + second > 15) or (hand[2] == 4 and first < second)
                    self.assertTrue(wrong and answers == ())

    def test_house_registers_in_hands(self):
        late = [("num", 6), ("reg", 0), ("reg", 1), ("num", 15), ("add", 1, 2), ("sub", 1, 2), ("and", 4, 3), ("and", 5, 3)]
        steps = [("load", 0, 0), ("load", 1, 1)]
        for width in (4, 12):
            self.assertEqual(self.told(width, late, [(0, 1, 2), (0, 6, 7)], steps), (None, 7))
            self.assertEqual(self.told(width, late, [(0, 1, 2), (0, 7, 6)], steps)[0][0], "Unlike")
            self.assertEqual(self.told(width, late, [(0, 1, 2), (0, 6, 7)], steps[:1])[0][0], "Unlike")

    def test_late_words_are_reckoned_behind_each_segment(self):
        road = [(5, ("inc", ())), (6, ("inc", ()))]
        late = [("slot", 0), ("slot", 1), ("num", 5), ("num", 6), ("num", 7), ("num", 1), ("add", 0, 5), ("add", 6, 5),
                ("num", 15), ("and", 6, 8), ("and", 7, 8)]
        for width in (4, 7):
            hands = [(2, 0, 1), (3, 9, 1), (4, 10, 1)]
            self.assertEqual(self.told(width, late, hands, [("tick",)], road), (None, 5))
            for at, hand in ((1, (3, 10, 1)), (2, (4, 9, 1)), (2, (3, 10, 1)), (1, (3, 0, 1)), (2, (4, 10, 0))):
                wrong = hands[:at] + [hand] + hands[at + 1:]
                told = self.told(width, late, wrong, [("tick",)], road)[0]
                self.assertEqual((told[0], told[2]), ("Unlike", (None,) if at == 1 else (0,)))


class Drawn(unittest.TestCase):
    def drawn(self, seed, many, most=8):
        rng = random.Random(seed)
        made = 0
        while made < many:
            word = 4 if made % 4 else 8
            book = BOOKS[word] if made % 2 else let_by_book(rng, word, rng.randrange(1, 4))
            road = drawn_road(rng, book, rng.randrange(1, most + 1))
            made += 1
            pair = Pair(book, drawn_house(rng, word, rng.choice((word, 12)), rng.choice((3, 4, 5, 8))), longest=most)
            yield rng, pair, road

    def test_templates_are_let_by(self):
        many = 0
        for _, pair, road in self.drawn(128, 80):
            told = or_too_many(let_by, pair, road, template(pair, road))
            self.assertIn(told, (None, "TooMany"))
            many += told is None
            self.assertIsNone(dear_at(pair, road, template(pair, road)))
            self.assertEqual(is_let_by_judge(pair, road, template(pair, road)), told is None)
        self.assertGreater(many, 60)

    def test_templates_of_longer_roads_have_no_room(self):
        book = Book(4, 1, [INC])
        pair = Pair(book, house_of(4, 4), longest=1)
        road = road_of(book, [(at, ("inc", ())) for at in range(8)])
        self.assertIsNone(refusal(let_by, pair, road, template(pair, road)))
        self.assertIsNone(refusal(let_by, pair, beginning(book, road, 1), template(pair, beginning(book, road, 1))))

    def test_prices_of_spoiled_rows(self):
        dear = 0
        for rng, pair, road in self.drawn(1280, 120):
            row = template(pair, road)
            for _ in range(4):
                row = spoiled(rng, pair, row)
                if len(row.hands) != len(road) + 1:
                    break
                told = dear_at(pair, road, row)
                self.assertEqual(told, own_dear(pair, road, row))
                dear += told is not None
        self.assertGreater(dear, 20)

    def test_each_reason_of_spoiled_rows(self):
        rng = random.Random(1281)
        told = {}
        while sum(told.values()) < 220:
            book = let_by_book(rng, 4, 1)
            road = drawn_road(rng, book, rng.randrange(1, 4))
            if reads_of(book, road) > 1:
                continue
            pair = Pair(book, drawn_house(rng, 4, rng.choice((4, 6)), 5), longest=4)
            row = template(pair, road)
            for _ in range(rng.randrange(1, 3)):
                row = spoiled(rng, pair, row)
            why = refusal(let_by, pair, road, row)
            told[why and why[0]] = told.get(why and why[0], 0) + 1
            if len(row.hands) != len(road) + 1:
                self.assertEqual(why, ("BadRow", len(row.steps) + len(row.late)))
                continue
            slots = [step[2] for step in row.steps if step[0] == "load"] + [step[1] for step in row.steps if step[0] == "save"]
            slots += [late[1] for late in row.late if late[0] == "slot"]
            beyond = [slot for slot in slots if slot >= pair.r]
            dear = own_dear(pair, road, row)
            unlike = first_unlike(lambda regs, answers: road_run(book, list(road), regs, answers)[0],
                                  lambda regs, answers: row_run(pair, row, road.entry, regs, answers), 4, 1)
            if beyond:
                self.assertEqual(why, ("NoRoom", min(beyond)))
            elif dear:
                self.assertEqual(why, ("Dearer", *dear))
            elif why is None or why[0] != "TooMany":
                self.assertEqual(why is None, unlike is None)
                if why is not None:
                    regs, answers = why[1:]
                    self.assertNotEqual(road_run(book, list(road), regs, answers)[0],
                                        row_run(pair, row, road.entry, regs, answers)[:2])
        self.assertGreater(told[None], 15)
        self.assertGreater(told["Unlike"], 60)
        self.assertGreater(told["Dearer"], 5)

    def let_by_rows(self, seed, many):
        """Pairs and roads, each with its template and another row that is let by."""
        rng = random.Random(seed)
        made = 0
        while made < many:
            book = let_by_book(rng, 4, 1)
            road = drawn_road(rng, book, rng.randrange(1, 4))
            pair = Pair(book, drawn_house(rng, 4, 6, 5))
            rows = [template(pair, road)]
            for _ in range(12):
                row = spoiled(rng, pair, rows[-1])
                if row != rows[-1] and is_let_by_judge(pair, road, row):
                    rows.append(row)
            if len(rows) > 1 and reads_of(book, road) < 3:
                made += 1
                yield rng, pair, road, [rows[0], rows[-1]]

    def test_two_rows_that_are_let_by_are_the_same(self):
        for _, pair, road, rows in self.let_by_rows(224, 40):
            pool = Pool(pair.house.width)
            sketches = [sketch_of_row(pool, pair, row, road.entry) for row in rows]
            self.assertIn(or_too_many(judged, *sketches), (None, "TooMany"))

    def test_behind_an_effect_no_run_leaves_its_segment(self):
        effects = 0
        for _, pair, road, rows in self.let_by_rows(222, 40):
            for regs in registers_below(4, 1):
                for answers, asks, handed in all_answers(lambda told: row_run(pair, rows[1], road.entry, regs, told), 4):
                    self.assertEqual(road_run(pair.book, list(road), regs, answers)[0], (asks, handed))
                    names = [ask[0] for ask in asks]
                    segment = names[len(names) - names[::-1].index("tick"):] if "tick" in names else names
                    yes = [ask for ask, answer in zip(segment, answers[len(names) - len(segment):]) if answer is not None]
                    if set(yes) & {"write", "in", "out"}:
                        effects += 1
                        self.assertEqual((handed[0], yes), (None, segment))
        self.assertGreater(effects, 30)


class InWorlds(unittest.TestCase):
    """A row that is let by hands over what the plain machine gives, in every machine of the book ([212])."""

    def ride(self, machine, world, road, pair, row, limit):
        """The row, run in the world as the road is driven: instructions done, cause, world behind."""
        q = turn_of(machine, world)
        own = world.processors[q]
        running = Running(pair, row, own.place, own.regs)
        whole, handed = True, None
        while handed is None:
            ask, answer = running.pending(), None
            if ask == ("tick",):
                world = closed(machine, placed(world, q, *running.hand(running.done + 1)))
                whole = whole and holds(world, road)
                answer = None if stops(machine, world, q, limit, not whole) else 0
            elif ask is not None:
                answer, world = asked(machine, world, q, ask)
                whole = whole and holds(world, road)
            handed = running.go(answer)
        cause, done, place, regs = handed
        if ask == ("tick",):
            return done, cause, world
        world = placed(world, q, place, regs)
        return done, cause, closed(machine, world if cause is None else faulted(world, q, cause))

    def test_rows_against_driving(self):
        rng = random.Random(212)
        dones = set()
        tried = 0
        while tried < 150:
            machine = drawn_machine(rng, 4)
            world = run(machine, drawn_start(rng, machine), rng.randrange(6))
            if is_over(world):
                continue
            place = world.processors[turn_of(machine, world)].place
            road = straight(machine, world, place, rng.randrange(1, 9))
            limit = world.moment + rng.randrange(1, 12)
            if road is None or refusal(drive, machine, world, road, limit) is not None:
                continue
            pair = Pair(machine.book, drawn_house(rng, 4, rng.choice((4, 7)), 5))
            row = template(pair, road)
            for _ in range(4):
                other = spoiled(rng, pair, row)
                row = other if is_let_by_judge(pair, road, other) else row
            tried += 1
            told = drive(machine, world, road, limit)
            self.assertEqual(self.ride(machine, world, road, pair, row, limit), told)
            self.assertEqual(told[2], run(machine, world, world.moment + told[0] + (told[1] is not None)))
            dones.add(told[0])
        self.assertGreaterEqual(dones, {0, 1, 2, 3})


if __name__ == "__main__":
    unittest.main()

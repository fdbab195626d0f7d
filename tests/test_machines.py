"""Machines ([61])."""

import random
import unittest

from helpers import WRONG_NUMBERS, WRONG_ROWS, refusal
from selfwritten.books import Book
from selfwritten.machines import Machine
from worldly import drawn_event, nop_book

BOOK = nop_book()
TWO = ((0, 1), (1, 2))


def told(book=BOOK, **more):
    return refusal(Machine, book, **more)


class Made(unittest.TestCase):
    def test_what_is_given_if_nothing_is_told(self):
        machine = Machine(BOOK)
        self.assertIs(machine.book, BOOK)
        facts = (machine.word, machine.depth, machine.processors, machine.events, machine.turns)
        self.assertEqual(facts, (4, 0, 1, (), ((0, 1),)))

    def test_attributes(self):
        machine = Machine(nop_book(8, 4), depth=3, events=[[5, "key", 255]], turns=[[2, 1000], [0, 1], (1, 7), (2, 2)],
                          processors=3)
        facts = (machine.word, machine.depth, machine.processors, machine.events, machine.turns)
        self.assertEqual(facts, (8, 3, 3, ((5, "key", 255),), ((2, 1000), (0, 1), (1, 7), (2, 2))))
        self.assertEqual([type(machine.events), type(machine.events[0]), type(machine.turns), type(machine.turns[0])],
                         [tuple] * 4)

    def test_depths_and_processors(self):
        for depth in range(4):
            self.assertEqual(Machine(BOOK, depth=depth).depth, depth)
        for many in (1, 2, 3):
            self.assertEqual(Machine(BOOK, processors=many, turns=[(q, 1) for q in range(many)]).processors, many)

    def test_own_copies(self):
        event, turn = [0, "key", 1], [0, 5]
        events, turns = [event], [turn]
        machine = Machine(BOOK, events=events, turns=turns)
        self.assertEqual((events, turns), ([[0, "key", 1]], [[0, 5]]))
        event[2], turn[1] = 9, 9
        events.append(3)
        turns.append(3)
        self.assertEqual((machine.events, machine.turns, machine.due(0)), (((0, "key", 1),), ((0, 5),), (("key", 1),)))


class Events(unittest.TestCase):
    def test_in_ascending_order_of_moments(self):
        events = [(3, "key", 9), (0, "line", 0, 5), (3, "cell", 1, 1), (1, "drain", 0), (3, "key", 2), (0, "key", 1)]
        machine = Machine(BOOK, events=events)
        wanted = ((0, "line", 0, 5), (0, "key", 1), (1, "drain", 0), (3, "key", 9), (3, "cell", 1, 1), (3, "key", 2))
        self.assertEqual(machine.events, wanted)

    def test_due(self):
        machine = Machine(BOOK, events=[(3, "key", 9), [0, "line", 0, 5], (3, "cell", 1, 1)])
        self.assertEqual(machine.due(0), (("line", 0, 5),))
        self.assertEqual(machine.due(3), (("key", 9), ("cell", 1, 1)))
        self.assertEqual([machine.due(at) for at in (1, 2, 4, 10 ** 12)], [()] * 4)
        self.assertIsInstance(machine.due(0)[0], tuple)

    def test_next_due(self):
        machine = Machine(BOOK, events=[(7, "key", 9), (3, "key", 9), (3, "key", 8), (10 ** 30, "drain", 0)])
        told = [machine.next_due(at) for at in (0, 2, 3, 4, 7, 8, 10 ** 30, 10 ** 30 + 1)]
        self.assertEqual(told, [3, 3, 3, 7, 7, 10 ** 30, 10 ** 30, None])
        self.assertIsNone(Machine(BOOK).next_due(0))

    def test_wrong_moments(self):
        machine = Machine(BOOK)
        for moment in (-1, *WRONG_NUMBERS):
            self.assertEqual(refusal(machine.due, moment), ("BadNumber", "moment"))
            self.assertEqual(refusal(machine.next_due, moment), ("BadNumber", "moment"))

    def test_drawn(self):
        rng = random.Random(61)
        for _ in range(40):
            events = [(rng.randrange(12), *drawn_event(rng, 4, 2)) for _ in range(rng.randrange(30))]
            machine = Machine(BOOK, events=events, processors=2, turns=TWO)
            self.assertEqual(list(machine.events), sorted(events, key=lambda event: event[0]))
            for moment in range(14):
                self.assertEqual(machine.due(moment), tuple(event[1:] for event in events if event[0] == moment))
                later = [event[0] for event in events if event[0] >= moment]
                self.assertEqual(machine.next_due(moment), min(later, default=None))


class Refused(unittest.TestCase):
    def test_the_book_first(self):
        get, out = ("get", 0), ("out", 0, 0)
        half = Book(4, 1, [("half", ["0000"], [get, out, ("read", 0)])])
        self.assertEqual(told(half, depth=9, processors=9, events=9, turns=9)[:2], ("HalfDone", "half"))
        one = Book(4, 1, [("one", ["000m"], ()), ("two", ["0001"], ())])
        self.assertEqual(told(one, depth=9), ("OneCode", "one", "two", (1,)))
        lines = [get, ("in", 0), ("less", 1, 0)] + [("less", 2 + k, k % 2) for k in range(7)] + [("must", 9, 12)]
        self.assertEqual(told(Book(4, 1, [("many", ["0000"], lines)]), depth=9), ("TooMany", "standing"))

    def test_depth(self):
        for depth in (-1, 4, *WRONG_NUMBERS):
            self.assertEqual(told(depth=depth, processors=9, events=9, turns=9), ("BadNumber", "depth"))

    def test_processors(self):
        for many in (0, -1, 4, *WRONG_NUMBERS):
            self.assertEqual(told(processors=many, events=9, turns=9), ("BadNumber", "processors"))

    def wrong_event(self, *event, **more):
        good = (0, "key", 1)
        for events in ([event], [good, list(event)], (good, event, good)):
            self.assertEqual(told(events=events, turns=9, **more), ("BadMachine", "events"), event)

    def test_events(self):
        for events in WRONG_ROWS:
            self.assertEqual(told(events=events, turns=9), ("BadMachine", "events"))
        for entry in (None, 0, "key", {0: 1}, (), ("key", 1), (0,), (0, ("key", 1))):
            self.assertEqual(told(events=[entry], turns=9), ("BadMachine", "events"), entry)
        for moment in (-1, *WRONG_NUMBERS):
            self.wrong_event(moment, "key", 1)
        for name in ("", "KEY", "put", None, 0, True, ("key",), ["key"], {}, b"key"):
            self.wrong_event(0, name, 1)

    def test_how_many_entries(self):
        for event in (("key",), ("key", 1, 1), ("line", 0), ("line", 0, 1, 1), ("cell", 1), ("cell", 1, 1, 1),
                      ("rights", 1), ("rights", 1, 1, 1), ("drain",), ("drain", 0, 0)):
            self.wrong_event(0, *event)

    def test_entries(self):
        """For each entry of each kind the least and the greatest one, and what is beyond."""
        kinds = (("key", (0, 15)), ("line", (0, 1), (1, 7)), ("cell", (0, 15), (0, 15)), ("rights", (0, 7), (0, 7)),
                 ("drain", (0, 1)))
        for name, *bounds in kinds:
            for at, (low, high) in enumerate(bounds):
                for number in (low, high):
                    rest = [most for _, most in bounds]
                    rest[at] = number
                    self.assertIsNone(told(events=[(0, name, *rest)], processors=2, turns=TWO))
                for number in (low - 1, high + 1, *WRONG_NUMBERS):
                    rest[at] = number
                    self.assertEqual(told(events=[(0, name, *rest)], processors=2, turns=9), ("BadMachine", "events"))
        self.wrong_event(0, "drain", 1)
        self.wrong_event(0, "line", 1, 1)
        self.assertIsNone(told(nop_book(8), events=[(0, "cell", 255, 255)]))
        self.assertEqual(told(nop_book(8), events=[(0, "cell", 256, 255)]), ("BadMachine", "events"))

    def test_turns(self):
        for turns in WRONG_ROWS:
            self.assertEqual(told(turns=turns), ("BadMachine", "turns"))
        good = (0, 1)
        for turn in (None, 0, "01", {0: 1}, (), (0,), (0, 1, 1), [0]):
            self.assertEqual(told(turns=[good, turn]), ("BadMachine", "turns"), turn)
        for q in (-1, 1, *WRONG_NUMBERS):
            self.assertEqual(told(turns=[good, (q, 1)]), ("BadMachine", "turns"), q)
        for count in (0, -1, 1001, *WRONG_NUMBERS):
            self.assertEqual(told(turns=[good, (0, count)]), ("BadMachine", "turns"), count)

    def test_a_turn_for_each_processor(self):
        self.assertEqual(told(turns=[]), ("BadMachine", "turns"))
        self.assertEqual(told(processors=2), ("BadMachine", "turns"))
        for many, turns in ((2, [(1, 1)]), (2, [(0, 1), (0, 2)]), (3, [(0, 1), (2, 1)]), (3, [(0, 1), (1, 1)])):
            self.assertEqual(told(processors=many, turns=turns), ("BadMachine", "turns"))
        self.assertIsNone(told(processors=3, turns=[(2, 1), (1, 1), (0, 1)]))

    def test_all_by_keyword(self):
        with self.assertRaises(TypeError):
            Machine(BOOK, 0)


if __name__ == "__main__":
    unittest.main()

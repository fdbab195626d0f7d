"""Worlds as texts ([181] to [183], [217])."""

import random
import unittest

from helpers import refusal
from plain import BOOKS, Plain, drawn_image, drawn_machine, drawn_start, let_by_book
from riding import drawn_case, drawn_pair, drawn_text, drawn_ways, worlds_of
from selfwritten.counting import done_counts, plain_counts
from selfwritten.desks import Desk
from selfwritten.fasts import Fast
from selfwritten.happenings import start
from selfwritten.legs import legs_run
from selfwritten.requests import requests
from selfwritten.runs import run, trail
from selfwritten.saves import saved, world_of
from selfwritten.untils import until_plain
from selfwritten.worlds import Processor, World, is_over, turn_of
from worldly import drawn_world, machine_of

HEAD = ["moment", "cells", "rights", "turn", "typed"]
OWN = ["processor", "place", "regs", "buffer", "lines", "alarm", "vector", "mode", "back", "cause", "kept", "page", "status"]
ORDER = ("place", "regs", "buffer", "lines", "alarm", "vector", "mode", "saved", "cause", "kept", "page", "status")
MOST = 10 ** 9


def own_text(world):
    """The text of a world, from its facts alone."""
    moment, cells, rights, turn, left, typed, shown, noted, own = world.facts()
    rows = [["moment", moment], ["cells", *cells], ["rights", *rights], ["turn", turn, left], ["typed", *typed]]
    rows += [["shown", *entry] for entry in shown] + [["noted", *entry] for entry in noted]
    for q, facts in enumerate(own):
        told = dict(zip(ORDER, facts))
        rows.append(["processor", q])
        for name in OWN[1:]:
            fact = told["saved" if name == "back" else name]
            if name == "buffer":
                fact = [entry for pair in fact for entry in pair]
            rows.append([name, *(fact if isinstance(fact, (tuple, list)) else ["none" if fact is None else fact])])
    return "".join(" ".join(map(str, row)) + "\n" for row in rows)


def own_number(token, most):
    """The number of a token, or None if it is wrong."""
    if not token or len(token) > 40 or token.strip("0123456789") or (token[0] == "0" and token != "0"):
        return None
    return int(token) if int(token) <= most else None


def wrong_line(text):
    """The number of the first wrong line of a text, or None; written from [182] alone."""
    lines = text.split("\n")
    whole = [line.split(" ") for line in lines[:-1]]
    unfinished = lines[-1] != ""
    at, cells, processors, registers = 0, None, [], None

    def numbers(name, most, many=None):
        if at >= len(whole) or whole[at][0] != name:
            return None
        found = [own_number(token, most) for token in whole[at][1:]]
        if None in found or (many is not None and len(found) != many):
            return None
        return found

    if numbers("moment", MOST, 1) is None:
        return at
    at += 1
    if at < len(whole) and whole[at][0] == "cells":
        cells = len(whole[at]) - 1
    if cells not in (16, 32, 64, 128, 256) or numbers("cells", cells - 1) is None:
        return at
    for name, most, many in (("rights", 7, 8), ("turn", MOST, 2), ("typed", cells - 1, None)):
        at += 1
        if numbers(name, most, many) is None:
            return at
    at += 1
    owners = []
    for name, bounds in (("shown", (MOST, 2, cells - 1)), ("noted", (MOST, 2, 15, cells - 1))):
        while at < len(whole) and whole[at][0] == name:
            found = numbers(name, MOST, len(bounds))
            if found is None or any(number > most for number, most in zip(found, bounds)):
                return at
            owners.append((at, found[1]))
            at += 1
    while not processors or (len(processors) < 3 and at < len(whole) and whole[at][0] == "processor"):
        for name in OWN:
            found = numbers(name, MOST)
            if name == "status":
                states = [["status", state] for state in ("on", "resting", "stopped", "fallen")]
                good = at < len(whole) and whole[at] in states
            elif name in ("alarm", "vector") and at < len(whole) and whole[at] == [name, "none"]:
                good = True
            elif found is None:
                good = False
            elif name == "processor":
                good = found == [len(processors)]
            elif name == "regs":
                good = len(found) == registers if processors else 1 <= len(found) <= 4
                registers = registers or len(found)
                good = good and max(found) < cells
            elif name == "buffer":
                good = len(found) % 2 == 0 and all(number < cells for number in found)
            elif name == "lines":
                good = found == sorted(set(found)) and all(1 <= number <= 7 for number in found)
            else:
                most = {"alarm": MOST, "mode": 1, "cause": 15, "page": 7}.get(name, cells - 1)
                good = len(found) == 1 and found[0] <= most
            if not good:
                return at
            at += 1
        processors.append(None)
    if at < len(whole) or unfinished:
        return at
    return ([number for number, q in owners if q >= len(processors)] or [None])[0]


def small_text(processors=1, cells=16, registers=1, entries=()):
    rows = ["moment 7", "cells" + " 3" * cells, "rights 7 6 5 4 3 2 1 0", "turn 0 1", "typed 1 2", *entries]
    for q in range(processors):
        rows += [f"processor {q}", "place 4", "regs" + " 5" * registers, "buffer 1 2 3 4", "lines 1 3 7", "alarm 99", "vector none",
                 "mode 1", "back 6", "cause 13", "kept 9", "page 2", "status resting"]
    return "".join(row + "\n" for row in rows)


class Texts(unittest.TestCase):
    def test_worlds_of_drawn_runs(self):
        rng = random.Random(181)
        for _ in range(100):
            word = rng.choice((4, 4, 5, 8))
            machine = drawn_machine(rng, word, book=None if word in BOOKS else let_by_book(rng, word, 3))
            world = drawn_world(rng, machine) if rng.random() < 0.3 else drawn_start(rng, machine)
            for world in list(trail(machine, world, 40))[::7]:
                text = saved(world)
                self.assertEqual(text, own_text(world))
                again = world_of(text)
                self.assertEqual(again, world)
                self.assertEqual(saved(again), text)
                self.assertIsNone(wrong_line(text))
                self.assertIsInstance(again, World)
                self.assertTrue(all(isinstance(own, Processor) for own in again.processors))

    def test_equal_worlds_have_equal_texts(self):
        rng = random.Random(183)
        worlds = []
        while len(worlds) < 20:
            machine = drawn_machine(rng, 4, book=BOOKS[4])
            worlds = list(trail(machine, drawn_start(rng, machine), 30))
        worlds += [worlds[3].changed(shown=((0, 0, 1),)), worlds[3].changed(noted=((0, 0, 1, 0),)), worlds[3].changed(typed=(1,))]
        for one in worlds:
            for other in worlds:
                self.assertEqual(one == other, saved(one) == saved(other))

    def test_sizes(self):
        for cells in (16, 32, 64, 128, 256):
            for registers in (1, 4):
                for processors in (1, 2, 3):
                    text = small_text(processors, cells, registers)
                    world = world_of(text)
                    self.assertEqual((len(world.cells), len(world.processors), len(world.processors[0].regs)),
                                     (cells, processors, registers))
                    self.assertEqual(saved(world), text)
        for cells in (0, 1, 15, 17, 24, 255, 257, 512):
            self.assertEqual(refusal(world_of, small_text(1, cells)), ("BadLine", 1))
        self.assertEqual(refusal(world_of, small_text(1, 16, 5)), ("BadLine", 7))
        self.assertEqual(refusal(world_of, small_text(1, 16, 0)), ("BadLine", 7))
        self.assertEqual(refusal(world_of, small_text(4)), ("BadLine", 44))

    def test_empty_rows(self):
        text = small_text(2).replace("typed 1 2", "typed").replace("buffer 1 2 3 4", "buffer").replace("lines 1 3 7", "lines")
        world = world_of(text)
        self.assertEqual((world.typed, world.processors[1].buffer, world.processors[0].lines), ((), (), ()))
        self.assertEqual(saved(world), text)
        for name in ("typed", "buffer", "lines"):
            at = text.split("\n").index(name)
            self.assertEqual(refusal(world_of, text.replace(name + "\n", name + " \n")), ("BadLine", at))
        for row, at in (("cells" + " 3" * 16, 1), ("rights 7 6 5 4 3 2 1 0", 2), ("regs 5", 7)):
            self.assertEqual(refusal(world_of, text.replace(row, row.split(" ")[0])), ("BadLine", at))

    def test_no_string_has_no_lines(self):
        for text in (None, 3, b"moment 0\n", ["moment 0"], "", "moment 0", "\n", "moment 0 "):
            self.assertEqual(refusal(world_of, text), ("BadLine", 0))


class Spoiled(unittest.TestCase):
    ENTRIES = ("shown 1 0 3", "shown 2 1 4", "noted 3 1 9 5", "noted 3 0 1 6")

    def check(self, text):
        wrong = wrong_line(text)
        if wrong is None:
            self.assertEqual(saved(world_of(text)), text)
        else:
            self.assertEqual(refusal(world_of, text), ("BadLine", wrong))
        return wrong

    def test_each_token_of_each_line(self):
        lines = small_text(2, entries=self.ENTRIES).split("\n")[:-1]
        tokens = ("0", "1", "2", "7", "8", "15", "16", "17", "00", "01", "-1", "+1", "", "x", "none", "on", "1.0", "1e3", "1_0", " ",
                  str(MOST), str(MOST + 1), "9" * 41, "9" * 5000, "\u0663", "\u00b2", "moment", "shown", "processor", "stopped")
        told = set()
        for at, line in enumerate(lines):
            parts = line.split(" ")
            for spot in range(len(parts)):
                for token in tokens:
                    new = parts[:spot] + [token] + parts[spot + 1:]
                    told.add(self.check("\n".join(lines[:at] + [" ".join(new)] + lines[at + 1:]) + "\n"))
                for new in (parts[:spot] + parts[spot + 1:], parts[:spot] + ["1"] + parts[spot:], parts[:spot] + [""] + parts[spot:]):
                    told.add(self.check("\n".join(lines[:at] + [" ".join(new)] + lines[at + 1:]) + "\n"))
        self.assertEqual(told, {None, *range(len(lines))})

    def test_lines_that_are_missing_too_many_or_unfinished(self):
        for processors in (1, 2, 3):
            entries = self.ENTRIES if processors > 1 else self.ENTRIES[:1]
            lines = small_text(processors, entries=entries).split("\n")[:-1]
            for at in range(len(lines) + 1):
                self.check("".join(line + "\n" for line in lines[:at]))
                self.check("\n".join(lines[:at]))
                self.check("".join(line + "\n" for line in lines[:at]) + "x")
                for more in ([""], ["shown 1 0 3"], ["noted 1 0 3 4"], ["processor 1"], lines[at:at + 1], ["typed 1"]):
                    self.check("".join(line + "\n" for line in lines[:at] + more + lines[at:]))
                if at < len(lines):
                    self.check("".join(line + "\n" for line in lines[:at] + lines[at + 1:]))
                    self.check("".join(line + "\n" for line in lines[:at] + lines[at + 1:at + 2] + lines[at:at + 1] + lines[at + 2:]))
            text = "".join(line + "\n" for line in lines)
            self.assertEqual(refusal(world_of, text[:-1]), ("BadLine", len(lines) - 1))
            self.assertEqual(refusal(world_of, text + "x"), ("BadLine", len(lines)))
            self.assertEqual(refusal(world_of, text + "\n"), ("BadLine", len(lines)))
            self.assertEqual(refusal(world_of, text.replace("\n", "\r\n")), ("BadLine", 0))
            self.assertEqual(refusal(world_of, text.replace(" ", "\t")), ("BadLine", 0))

    def test_a_processor_that_is_not_there_is_told_only_if_all_else_is_right(self):
        for q in (1, 2):
            for entries, at in (((f"shown 1 {q} 3",), 5), (("shown 1 0 3", f"noted 1 {q} 3 3"), 6),
                                (("shown 1 0 3", f"shown 1 {q} 3", f"noted 1 {q} 3 3"), 6)):
                text = small_text(q, entries=entries)
                self.assertEqual(refusal(world_of, text), ("BadLine", at))
                self.assertEqual(refusal(world_of, text[:-1]), ("BadLine", text.count("\n") - 1))
                self.assertEqual(refusal(world_of, text.replace("mode 1", "mode 2")), ("BadLine", 5 + len(entries) + 7))
                self.assertIsNone(refusal(world_of, small_text(q + 1, entries=entries)))
        self.assertEqual(refusal(world_of, small_text(3, entries=("shown 1 3 3",))), ("BadLine", 5))

    def test_moments_that_lie_ahead(self):
        text = small_text(1, entries=("shown 900 0 3", "shown 8 0 3", f"noted {MOST} 0 15 3"))
        world = world_of(text)
        self.assertEqual((world.moment, world.shown, world.noted), (7, ((900, 0, 3), (8, 0, 3)), ((MOST, 0, 15, 3),)))

    def test_registers_of_the_others(self):
        text = small_text(3, registers=2)
        lines = text.split("\n")
        for q in (1, 2):
            for regs in ("regs 5", "regs 5 5 5", "regs"):
                at = 5 + 13 * q + 2
                self.assertEqual(refusal(world_of, "\n".join(lines[:at] + [regs] + lines[at + 1:])), ("BadLine", at))

    def test_drawn_texts(self):
        rng = random.Random(182)
        wrong = set()
        for _ in range(150):
            machine = drawn_machine(rng, 4)
            lines = saved(run(machine, drawn_start(rng, machine), 20)).split("\n")[:-1]
            for _ in range(10):
                at = rng.randrange(len(lines))
                parts = lines[at].split(" ")
                spot = rng.randrange(len(parts))
                parts[spot] = rng.choice((str(rng.randrange(20)), "", "none", "12345", parts[0], "00", str(MOST + 1)))
                wrong.add(self.check("".join(line + "\n" for line in lines[:at] + [" ".join(parts)] + lines[at + 1:])))
        self.assertGreater(len(wrong), 30)


class Cuts(unittest.TestCase):
    def test_cut_behind_each_deed_saved_and_gone_on_with(self):
        rng = random.Random(217)
        riding = 0
        for number in range(20):
            machine, pair, world = drawn_case(rng)
            fast = Fast(machine, pair, world, **drawn_ways(rng, machine, pair, worlds_of(machine, world, 30)))
            wanted = run(machine, world, 40)
            name = ""
            while name != "none":
                name = fast.deed(25)
                riding += fast.riding() is not None
                meant = world_of(saved(fast.meaning()))
                self.assertEqual(meant, fast.meaning())
                self.assertEqual(run(machine, meant, 40), wanted)
                if rng.random() < 0.2:
                    other = drawn_pair(rng, machine.book)
                    again = Fast(machine, other, meant, **drawn_ways(rng, machine, other, worlds_of(machine, world, 30)))
                    self.assertEqual(again.run(40), wanted)
        self.assertGreater(riding, 100)

    def test_worlds_in_which_anything_stands(self):
        rng = random.Random(1182)
        ended = 0
        for _ in range(120):
            machine = drawn_machine(rng, 4)
            pair = drawn_pair(rng, machine.book, longest=8)
            text = drawn_text(rng, machine, drawn_image(rng, machine))
            world = world_of(text)
            self.assertEqual(saved(world), text)
            moment = world.moment + 40
            fast = Fast(machine, pair, world, size=rng.randrange(1, 9), plan=[(rng.choice((1, 2)), rng.randrange(1, 9))])
            if world.processors[turn_of(machine, world)].ended() and not is_over(world):
                for call in (lambda: run(machine, world, moment), lambda: fast.run(moment), lambda: requests(machine, world, moment, 3),
                             lambda: Desk(machine, world).stand_at(moment), lambda: until_plain(machine, world, moment, ()),
                             lambda: plain_counts(machine, world, moment), lambda: legs_run(machine, world, [(moment, None)])):
                    self.assertEqual(refusal(call), ("BadWorld", "world"))
                self.assertEqual((run(machine, world, world.moment), fast.world), (world, world))
                ended += 1
                continue
            plain = Plain(machine, world)
            while plain.moment < moment and not plain.over():
                plain.step()
            self.assertEqual(run(machine, world, moment).facts(), plain.facts())
            self.assertEqual(fast.run(moment).facts(), plain.facts())
            self.assertEqual(done_counts(fast), plain_counts(machine, world, moment))
            self.assertEqual(Desk(machine, world, every=3).stand_at(moment).facts(), plain.facts())
            self.assertEqual(saved(world_of(saved(fast.world))), saved(fast.world))
        self.assertGreater(ended, 5)

    def test_a_world_that_is_read_is_checked_where_it_is_used(self):
        world = world_of(small_text(1).replace("turn 0 1", "turn 5 900"))
        machine = machine_of(depth=2)
        self.assertEqual(refusal(run, machine, world, 9), ("BadWorld", "world"))
        world = world_of(small_text(1))
        self.assertEqual(refusal(run, machine_of(depth=1), world, 9), ("BadWorld", "world"))
        self.assertEqual(run(machine, world, 7), world)
        self.assertEqual(start(machine, (), (0,)), world_of(saved(start(machine, (), (0,)))))


if __name__ == "__main__":
    unittest.main()

"""A fast machine of the tests, written from [166] to [172], on the plain machine of the tests."""

from helpers import OPS, operation
from housing import told_order
from plain import Plain
from selfwritten.mending import good_row
from selfwritten.roads import along, straight
from selfwritten.templates import template
from selfwritten.trimming import trimmed
from shelves import OwnStore

ASKS = ("read", "write", "in", "out", "tick")


class Held:
    """The facts of a world, for Plain and for the package's functions."""

    def __init__(self, facts):
        self._facts = facts

    def facts(self):
        return self._facts


class OwnRide:
    def __init__(self, pair, road, row, q, place, regs, moment):
        self.pair, self.road, self.row, self.q, self.entered = pair, road, row, q, moment
        self.words = [0] * pair.house.registers
        self.slots = {**dict(enumerate(regs)), len(regs): place}
        self.at, self.done, self.thrown = 0, 0, False

    def copied(self):
        other = OwnRide(self.pair, self.road, self.row, self.q, 0, (), self.entered)
        other.words, other.slots, other.at, other.done = list(self.words), dict(self.slots), self.at, self.done
        return other

    def ask(self):
        kind, *rest = self.row.steps[self.at]
        if kind not in ASKS:
            return None
        told = {"read": rest[1:], "write": rest, "in": (), "out": rest[1:], "tick": ()}[kind]
        port = {"in": rest[1:], "out": rest[:1]}.get(kind, ())
        return (kind, *port, *[self.words[reg] for reg in told])

    def hand(self, index):
        told = []
        for kind, *rest in self.row.late:
            if kind in OPS:
                told.append(operation(kind, told[rest[0]], told[rest[1]], self.pair.house.width))
            else:
                found = {"slot": self.slots.get(rest[0], 0), "num": rest[0]}
                told.append(self.words[rest[0]] if kind == "reg" else found[kind])
        words = [told[at] for at in self.row.hands[index]]
        return words[0], tuple(words[1:])

    def late_ops(self, index):
        found, waiting = set(), list(self.row.hands[index])
        while waiting:
            at = waiting.pop()
            if self.row.late[at][0] in OPS and at not in found:
                found.add(at)
                waiting.extend(self.row.late[at][1:])
        return len(found)

    def go(self, answer):
        """Does a step; returns (cause, boundary) if the row is left."""
        kind, *rest = self.row.steps[self.at]
        self.at += 1
        if kind in ASKS and answer is None:
            return {"read": 10, "write": 11}.get(kind), self.done + (kind == "tick")
        if kind == "must" and self.words[rest[0]] == 0:
            return rest[1], self.done
        if kind == "end" or (kind == "keep" and self.words[rest[0]] != rest[1]):
            return None, self.done + 1
        if kind == "order":
            d, x, y, n = rest[1:]
            told = {"d": self.words[d], "x": self.words[x], "y": self.words[y], "n": n}
            self.words[d] = told_order(self.pair.house, rest[0], told)
        elif kind == "load":
            self.words[rest[0]] = self.slots.get(rest[1], 0)
        elif kind == "save":
            self.slots[rest[0]] = self.words[rest[1]]
        elif kind in ("read", "in"):
            self.words[rest[0]] = answer
        self.done += kind == "tick"
        return None


class OwnFast:
    def __init__(self, machine, pair, world, size=4, picks="oldest", links=True, plan=((1, 4),), offers=(), forced=()):
        self.machine, self.pair, self.plain = machine, pair, Plain(machine, world)
        self.store = OwnStore(size, picks, links)
        self.plan, self.offers, self.forced = list(plan), offers, forced
        self.world = world
        self.ride, self.waiting, self.behind, self.used = None, None, {}, 0
        self.counts = {"house_steps": 0, "road_steps": 0, "made": 0, "written": 0, "followed": 0, "looks": 0}
        self.entered, self.left, self.done = [], [], {}

    def package_world(self):
        """The present world as one of the package, for making roads; only cells and rights count."""
        return self.world.changed(cells=tuple(self.plain.cells), rights=tuple(self.plain.rights))

    def road_holds(self, road):
        for kind, at, told in road.looks:
            if (self.plain.rights[at] % 2 if kind == "go" else self.plain.cells[at]) != told:
                return False
        return True

    def watch(self):
        for entry in list(self.store.rows):
            if not self.road_holds(self.store.rows[entry][0]):
                self.store.throw(entry)

    def q(self):
        return self.machine.turns[self.plain.turn][0]

    def takes(self, q):
        return self.plain.ready(q) and not self.plain.ended(q) and bool(self.plain.own[q]["lines"])

    def stops(self, q, limit, thrown):
        found = [("limit", self.plain.moment >= limit), ("turn", self.q() != q or self.plain.over()),
                 ("line", self.takes(q)), ("rest", self.plain.own[q]["status"] != "on"), ("thrown", thrown)]
        return tuple(name for name, holds in found if holds)

    def deed(self, limit):
        if self.ride:
            self.house(limit)
            return "house"
        q = self.q()
        own = self.plain.own[q]
        if self.waiting is not None:
            self.plain.meet(q, self.waiting)
            self.plain.close()
            self.watch()
            self.waiting, self.behind[q] = None, None
            self.counts["road_steps"] += 1
            return "take"
        if self.plain.moment >= limit or self.plain.over():
            return "none"
        if own["status"] != "on" or self.takes(q):
            return self.step(q)
        behind = self.behind.get(q)
        if behind is not None and self.store.lay(behind, own["place"]):
            return "link"
        if own["place"] in self.store.rows:
            return self.enter(q, own, behind)
        found = self.find(own["place"])
        if found is None:
            return self.step(q)
        self.store.put(found[0].places[0], found)
        self.counts["made"] += 1
        self.counts["written"] += len(found[1].steps)
        return "make"

    def count(self, place):
        self.done[place] = self.done.get(place, 0) + 1

    def step(self, q):
        place = self.plain.own[q]["place"]
        if self.plain.step() == "done":
            self.count(place)
        self.watch()
        self.behind[q] = None
        return "plain"

    def enter(self, q, own, behind):
        road, row = self.store.rows[own["place"]]
        followed = behind is not None and (behind, own["place"]) in self.store.links
        self.counts["followed" if followed else "looks"] += 1
        self.store.use(own["place"])
        self.ride = OwnRide(self.pair, road, row, q, own["place"], own["regs"], self.plain.moment)
        self.entered.append((self.plain.moment, q, own["place"], len(road.places)))
        self.behind[q] = None
        return "enter"

    def suiting(self, entry, places):
        if places[0] != entry or len(places) > self.pair.longest or max(places) >= 2 ** self.machine.word:
            return None
        road = along(self.machine, self.package_world(), places)
        return road if road is not None and road.places == tuple(places) else None

    def find(self, entry):
        for places, row in self.forced:
            road = self.suiting(entry, places)
            if road is not None:
                return road, row
        how, longest = self.plan[self.used % len(self.plan)]
        self.used += 1
        if how == 3:
            for places, row in self.offers:
                road = self.suiting(entry, places)
                if road is not None and (row is None or good_row(self.pair, road, row)):
                    return road, trimmed(self.pair, road) if row is None else row
        road = straight(self.machine, self.package_world(), entry, longest) if how else None
        return road and (road, (trimmed if how == 2 else template)(self.pair, road))

    def house(self, limit):
        ride = self.ride
        kind, ask, answer = ride.row.steps[ride.at][0], ride.ask(), None
        if kind == "tick":
            self.plain.close()
            ride.thrown = ride.thrown or not self.road_holds(ride.road)
            answer = 0 if self.stops(ride.q, limit, ride.thrown) == () else None
            self.watch()
        elif ask is not None:
            answer = self.plain.answer(ride.q, ask)
            ride.thrown = ride.thrown or not self.road_holds(ride.road)
            self.watch()
        done = ride.done
        left = ride.go(answer)
        self.counts["house_steps"] += 1
        if kind in ("tick", "end") or (kind == "keep" and left):
            self.counts["road_steps"] += 1
            self.count(ride.road.places[done])
        if left is None:
            return
        cause, boundary = left
        place, regs = ride.hand(boundary)
        self.counts["house_steps"] += ride.late_ops(boundary)
        self.plain.own[ride.q].update(place=place, regs=regs)
        if kind in ("keep", "end"):
            self.plain.close()
            self.watch()
        causes = {"keep": ("place",), "end": ("end",)}.get(kind)
        if cause is not None:
            causes = ("fault",)
        if causes is None:
            causes = self.stops(ride.q, limit, ride.thrown)
        entry = ride.road.places[0]
        self.left.append((self.plain.moment, ride.q, entry, boundary, causes))
        self.behind[ride.q] = entry if cause is None else None
        self.ride, self.waiting = None, cause

    def meaning(self):
        """The facts of the world that is meant."""
        if not self.ride:
            return self.plain.facts()
        thought, ride = Plain(self.machine, Held(self.plain.facts())), self.ride.copied()
        left = None
        while left is None:
            kind = ride.row.steps[ride.at][0]
            left = ride.go(None)
        place, regs = ride.hand(left[1])
        thought.own[ride.q].update(place=place, regs=regs)
        if kind in ("tick", "keep", "end"):
            thought.close()
        return thought.facts()

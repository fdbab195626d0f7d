"""The fast machine: it runs house rows in place of instructions."""

from selfwritten.closing import can_take, closed_by, faulted
from selfwritten.entering import Ride, ride_answer, ride_stops
from selfwritten.errors import BadPair
from selfwritten.linking import lay, linked
from selfwritten.plans import Proposer, check_forced, check_offers, plan_within, road_suiting
from selfwritten.rows import handed_parts
from selfwritten.runs import dozed, idle_steps, is_going
from selfwritten.steps import stepped
from selfwritten.stores import Store
from selfwritten.watching import watched
from selfwritten.widths import check_int
from selfwritten.worlds import check_world

# Steps behind which the instruction's step is closed if the row is left there.
CLOSING = ("tick", "keep", "end")


class Fast:
    """A machine with a store of house rows; its deeds change it."""

    def __init__(
        self, machine, pair, world, *, size=4, picks="oldest", links=True, plan=((1, 4),), offers=(), forced=()
    ):
        if pair.book != machine.book:
            raise BadPair()
        check_world(machine, world)
        self.machine = machine
        self.pair = pair
        self.world = world
        self.store = Store(size, picks=picks, links=links)
        self._plan = plan_within(plan, pair.longest)
        self._used = 0
        self._proposer = Proposer(machine, pair, check_offers(offers))
        self._forced = check_forced(pair, forced)
        self.waiting = None
        self.house_steps = 0
        self.road_steps = 0
        self.made = 0
        self.written = 0
        self.followed = 0
        self.looks = 0
        # How often the instruction at each place was done.
        self.counts = {}
        self._ride = None
        # The meaning, or None if it has to be thought of anew.
        self._meant = None
        # For each processor the entry of the road that it has left last, or None.
        self._behind = [None] * machine.processors
        self._begun = []
        self._ended = []
        # What the store was watched in last.
        self._watched = None

    def deed(self, moment):
        """Does the next deed of a run to the moment; returns its name."""
        check_int(moment, 0, None, "moment")
        return self._next_deed(moment)

    def run(self, moment):
        """Does deeds until one is none; returns the world."""
        check_int(moment, 0, None, "moment")
        name = ""
        while name != "none":
            self.doze(moment)
            name = self._next_deed(moment)
        return self.world

    def doze(self, moment):
        """Does all idle deeds at once but the last one of those that a leap would make."""
        if self._ride is not None or self.waiting is not None:
            return
        many = idle_steps(self.machine, self.world, moment)
        if many > 1:
            self._behind[self.machine.turns[self.world.turn][0]] = None
            self.world = dozed(self.world, many - 1)

    def meaning(self):
        """The world of the plain machine's run that is meant by what lies there."""
        if self._ride is None:
            return self.world
        if self._meant is None:
            step, (_, _, place, regs) = self._ride.state.unanswered()
            self._meant = self._placed(self._ride.q, place, regs)
            if step[0] in CLOSING:
                self._meant = closed_by(self.machine, self._meant)
        return self._meant

    def riding(self):
        """The entry and the ticks answered yes of the ride, or None."""
        return None if self._ride is None else (self._ride.road.entry, self._ride.state.done)

    def enterings(self):
        """For each ride its moment, processor, entry, and the number of instructions."""
        return tuple(self._begun)

    def lefts(self):
        """For each ride that was left the moment, processor, entry, instructions done, and causes."""
        return tuple(self._ended)

    def _next_deed(self, moment):
        """As deed, for a moment that was checked."""
        if self._ride is not None:
            self._house(self._ride, moment)
            return "house"
        if self.waiting is not None:
            self._take()
            return "take"
        if not is_going(self.world, moment):
            return "none"
        q = self.machine.turns[self.world.turn][0]
        own = self.world.processors[q]
        if own.status != "on" or can_take(self.world, q):
            return self._plain(q)
        if self._behind[q] is not None and lay(self.store, self._behind[q], own.place):
            return "link"
        if own.place in self.store:
            return self._enter(q, own)
        found = self._found(own.place)
        if found is None:
            return self._plain(q)
        road, row = found
        self.store.put(road, row)
        self.made += 1
        self.written += len(row.steps)
        return "make"

    def _become(self, world):
        """The world is another one from now on, and the store is watched in it."""
        self.world = world
        self._meant = None
        # A store that was watched in these cells and rights throws out nothing more.
        seen = (world.cells, world.rights, self.store.puts)
        if seen != self._watched:
            watched(world, self.store)
            self._watched = seen

    def _placed(self, q, place, regs):
        """The world in which q has this place and these registers."""
        return self.world.with_processor(q, self.world.processors[q].changed(place=place, regs=regs))

    def _count(self, place):
        """The instruction at a place was done once more."""
        self.counts[place] = self.counts.get(place, 0) + 1

    def _house(self, ride, moment):
        """Does one step of the ride's row."""
        step = ride.row.steps[ride.state.at]
        done = ride.state.done
        answer = None
        if ride.state.pending() is not None:
            answer, world = ride_answer(self.machine, self.world, ride, moment)
            self._become(world)
        handed = ride.state.go(answer)
        self.house_steps += 1
        if step[0] in ("tick", "end") or (step[0] == "keep" and handed is not None):
            self.road_steps += 1
            if done < len(ride.road):
                self._count(ride.road.places[done])
        if handed is not None:
            self._leave(ride, step[0], handed, moment)

    def _leave(self, ride, name, handed, moment):
        """The ride has ended at a step of this name."""
        cause, done, place, regs = handed
        self.house_steps += handed_parts(ride.row, done)
        world = self._placed(ride.q, place, regs)
        if name in ("keep", "end"):
            world = closed_by(self.machine, world)
        self._become(world)
        self._ride = None
        self.waiting = cause
        self._behind[ride.q] = ride.road.entry if cause is None else None
        causes = self._causes(ride, name, cause, moment)
        self._ended.append((world.moment, ride.q, ride.road.entry, done, causes))

    def _causes(self, ride, name, cause, moment):
        """Why the ride was left at a step of this name."""
        if cause is not None:
            return ("fault",)
        if name in ("keep", "end"):
            return ("place",) if name == "keep" else ("end",)
        return ride_stops(self.machine, self.world, ride, moment)

    def _take(self):
        """The processor of the present turn meets the cause that waits."""
        q = self.machine.turns[self.world.turn][0]
        world = closed_by(self.machine, faulted(self.world, q, self.waiting))
        self.waiting = None
        self.road_steps += 1
        self._behind[q] = None
        self._become(world)

    def _plain(self, q):
        """Does a step of the plain machine."""
        place = self.world.processors[q].place
        kind, world = stepped(self.machine, self.world)
        if kind == "done":
            self._count(place)
        self._behind[q] = None
        self._become(world)
        return "plain"

    def _enter(self, q, own):
        """Begins a ride of the road at q's place."""
        road, row = self.store.road_at(own.place), self.store.row_at(own.place)
        ride = Ride(self.pair, road, row, q, own.place, own.regs, self.world.moment)
        if self._behind[q] is not None and linked(self.store, self._behind[q], own.place):
            self.followed += 1
        else:
            self.looks += 1
        self.store.use(own.place)
        self._behind[q] = None
        self._begun.append((self.world.moment, q, own.place, len(ride.road)))
        self._ride = ride
        self._meant = None
        return "enter"

    def _found(self, entry):
        """The road and the row to be made at an entry, or None."""
        for places, row in self._forced:
            road = road_suiting(self.machine, self.pair, self.world, entry, places)
            if road is not None:
                return road, row
        how, longest = self._plan[self._used]
        self._used = (self._used + 1) % len(self._plan)
        return self._proposer.propose(self.world, entry, how, longest)

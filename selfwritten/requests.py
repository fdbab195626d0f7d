"""What a run asks of a store, told by the plain machine's run."""

from selfwritten.closing import can_take, closed_by, faulted
from selfwritten.fetching import GO
from selfwritten.ports import answered
from selfwritten.roads import MOST_INSTRUCTIONS, straight_of
from selfwritten.roadsteps import reasons
from selfwritten.runs import idle_steps, is_going, leapt
from selfwritten.steps import carried_out, stepped
from selfwritten.widths import check_int
from selfwritten.worlds import check_world


def enterings_of(machine, world, moment, longest):
    """The enterings of a fast machine with room for all roads, run to the moment."""
    return tuple(_followed(machine, world, moment, longest).begun)


def requests(machine, world, moment, longest):
    """The uses and marks of a run to the moment."""
    return tuple(_followed(machine, world, moment, longest).requested)


def _followed(machine, world, moment, longest):
    """A follower that has come to the moment."""
    check_world(machine, world)
    check_int(moment, 0, None, "moment")
    check_int(longest, 1, MOST_INSTRUCTIONS, "longest")
    follower = Follower(machine, world, longest)
    while is_going(follower.world, moment):
        follower.follow(moment)
    return follower


class Follower:
    """Follows the plain machine's run as a fast machine with room for all roads would ride through it."""

    def __init__(self, machine, world, longest):
        self.machine = machine
        self.world = world
        self.longest = longest
        self.q = 0
        self.begun = []
        self.requested = []
        self._roads = {}
        # For each cell and right that is looked at, a dict whose keys are the entries of the roads.
        self._looking = {}

    def follow(self, moment):
        """Makes a plain step, or idle steps, or drives a road up to the moment."""
        many = idle_steps(self.machine, self.world, moment)
        if many > 0:
            self.become(leapt(self.machine, self.world, many))
            return
        self.q = self.machine.turns[self.world.turn][0]
        own = self.world.processors[self.q]
        road = None
        if own.status == "on" and not can_take(self.world, self.q):
            road = self._road_at(own.place)
        if road is None:
            _, world = stepped(self.machine, self.world)
            self.become(world)
        else:
            self._ride_through(road, moment)

    def _road_at(self, entry):
        """The road at an entry, made if it does not lie there; None if there is none."""
        if entry not in self._roads:
            road = straight_of(self.machine, self.world, entry, self.longest)
            if road is None:
                return None
            self._roads[entry] = road
            for look in list(road.looks):
                self._looking.setdefault(look[:2], {})[entry] = True
        return self._roads[entry]

    def _ride_through(self, road, moment):
        """Rides through a road as far as a ride goes."""
        self.begun.append((self.world.moment, self.q, road.entry, len(road)))
        self.requested.append((road.entry, True))
        for at, instruction in enumerate(list(road.instructions)):
            cause = carried_out(self, instruction)
            if cause is not None:
                self.become(closed_by(self.machine, faulted(self.world, self.q, cause)))
                return
            self.become(closed_by(self.machine, self.world))
            if not self._goes_on(road, at + 1, moment):
                return

    def _goes_on(self, road, at, moment):
        """Whether the ride goes on with the instruction of this number."""
        if at == len(road):
            return False
        # A straight road has a goto only at its end, so its next place is always the next one.
        thrown = road.entry not in self._roads
        return reasons(self.machine, self.world, self.q, moment, thrown) == ()

    def answer(self, ask):
        """Answers an ask of the instruction that is carried out."""
        word, world = answered(self.machine, self.world, self.q, ask)
        self.become(world)
        return word

    def become(self, world):
        """The world is another one from now on; what does not hold in it is thrown out and marked."""
        before = self.world
        self.world = world
        if (before.cells, before.rights) == (world.cells, world.rights):
            return
        gone = {entry: True for look in _changed(before, world) for entry in self._looking.get(look, {})}
        for entry in sorted(gone):
            for look in list(self._roads[entry].looks):
                self._looking[look[:2]].pop(entry, None)
            del self._roads[entry]
            self.requested.append((entry, False))


def _changed(before, world):
    """The beginnings of the looks that are otherwise than before."""
    cells = [("cell", x) for x in range(len(world.cells)) if before.cells[x] != world.cells[x]]
    pages = [page for page in range(len(world.rights)) if (before.rights[page] ^ world.rights[page]) & GO]
    return cells + [("go", page) for page in pages]

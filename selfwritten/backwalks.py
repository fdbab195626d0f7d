"""Walking back over the worlds of a run with few of them kept."""

from math import comb

from selfwritten.errors import BadWorld
from selfwritten.runs import run_on
from selfwritten.widths import check_int
from selfwritten.worlds import check_world

MOST_LENGTH = 400
MOST_COUNTED = 1000000
MOST_PLACES = 60
MOST_TIMES = 60


def walk_cost(length, places):
    """The least number of steps of a walk back."""
    check_int(length, 1, MOST_COUNTED, "length")
    check_int(places, 1, MOST_PLACES, "places")
    return _cost(length, places)


def _cost(length, places):
    """As walk_cost, for arguments that were checked."""
    times = _least_times(length, places)
    return times * length - comb(places + times, places + 1)


def _least_times(length, places):
    """The least number of times whose reach is not below the length."""
    low, high = 0, length
    while low < high:
        middle = (low + high) // 2
        if comb(places + middle, places) < length:
            low = middle + 1
        else:
            high = middle
    return low


def reach(places, times):
    """The greatest length that can be walked back with no step gone more often."""
    check_int(places, 1, MOST_PLACES, "places")
    check_int(times, 0, MOST_TIMES, "times")
    return comb(places + times, places)


def walk_moves(length, places):
    """The moves of a plan of the least cost."""
    check_int(length, 1, MOST_LENGTH, "length")
    check_int(places, 1, MOST_PLACES, "places")
    planner = Planner(length)
    return tuple(planner.moves_of(length, places))


class Planner:
    """Finds plans of the least cost for lengths up to a greatest one."""

    def __init__(self, longest):
        self.longest = longest
        # For each number of places the costs of all lengths, as they are asked for.
        self.costs = {}

    def cost_of(self, length, places):
        if places not in self.costs:
            self.costs[places] = [0] + [_cost(one, places) for one in range(1, self.longest + 1)]
        return self.costs[places][length]

    def moves_of(self, length, places):
        """The list of the moves of a plan."""
        moves = []
        # What is still to be planned, the next one last: a move, or a length and places.
        waiting = [("plan", length, places)]
        while waiting:
            entry = waiting.pop()
            if entry[0] != "plan":
                moves.append(entry)
            elif entry[1] == 1 or entry[2] == 1:
                moves.extend(_plain_moves(entry[1]))
            else:
                waiting.extend(self.parts_of(entry[1], entry[2])[::-1])
        return moves

    def parts_of(self, length, places):
        """What a plan of more than one world and place is made of."""
        first = self.first_go(length, places)
        ahead = [("go", first), ("keep",), ("plan", length - first, places - 1)]
        return ahead + [("drop",), ("load",), ("plan", first, places)]

    def first_go(self, length, places):
        """How far the first go leads in a plan of the least cost."""
        sums = [one + self.cost_of(length - one, places - 1) + self.cost_of(one, places) for one in range(1, length)]
        return sums.index(min(sums)) + 1


def _plain_moves(length):
    """The moves of a plan for one place, or for one world."""
    moves = []
    for one in reversed(range(1, length)):
        moves.extend([("go", one), ("show",), ("load",)])
    return moves + [("show",)]


def walk_back(machine, world, length, places):
    """The worlds shown in walking back over the run from a world, and how many steps were gone."""
    check_world(machine, world)
    moves = walk_moves(length, places)
    last = world.moment + length - 1
    if run_on(machine, world, last).moment < last:
        raise BadWorld("world")
    shown, kept = [], [world]
    cost = 0
    for move in moves:
        if move[0] == "go":
            world = run_on(machine, world, world.moment + move[1])
            cost += move[1]
        elif move[0] == "keep":
            kept.append(world)
        elif move[0] == "load":
            world = kept[-1]
        elif move[0] == "drop":
            kept.pop()
        else:
            shown.append(world)
    return shown, cost

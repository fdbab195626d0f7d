"""Rides: house rows that run in a world."""

from selfwritten.closing import closed_by
from selfwritten.ports import answered
from selfwritten.roads import holds
from selfwritten.roadsteps import reasons
from selfwritten.rowruns import Running
from selfwritten.worlds import check_world


class Ride:
    """The running of a road's house row by a processor."""

    def __init__(self, pair, road, row, q, place, regs, moment):
        self.state = Running(pair, row, place, regs)
        self.road = road
        self.row = row
        self.q = q
        self.entered = moment
        self.thrown = False


def answer_of(machine, world, ride, limit):
    """The answer to the ask to which a ride has come, and the world behind it."""
    check_world(machine, world)
    return ride_answer(machine, world, ride, limit)


def ride_answer(machine, world, ride, limit):
    """As answer_of, for a world that was checked."""
    ask = ride.state.pending()
    if ask == ("tick",):
        after = closed_by(machine, world)
        ride.thrown = ride.thrown or not holds(after, ride.road)
        return (0 if ride_stops(machine, after, ride, limit) == () else None), after
    answer, after = answered(machine, world, ride.q, ask)
    ride.thrown = ride.thrown or not holds(after, ride.road)
    return answer, after


def ride_stops(machine, world, ride, limit):
    """The reasons for which the ride ends at a tick, in the world behind the closing."""
    return reasons(machine, world, ride.q, limit, ride.thrown)

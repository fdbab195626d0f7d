"""Roads that are driven in a world."""

from selfwritten.closing import can_take, closed_by, faulted
from selfwritten.errors import BadWorld
from selfwritten.ports import answered
from selfwritten.roads import holds, is_fresh
from selfwritten.steps import carried_out
from selfwritten.widths import check_int
from selfwritten.worlds import check_q, check_world, is_over


def stops(machine, world, q, moment, thrown):
    """The names of the reasons for which a ride of q ends ahead of its next instruction."""
    check_world(machine, world)
    check_q(world, q)
    check_int(moment, 0, None, "moment")
    return reasons(machine, world, q, moment, thrown)


def reasons(machine, world, q, moment, thrown):
    """As stops, for arguments that were checked."""
    found = []
    if world.moment >= moment:
        found.append("limit")
    if machine.turns[world.turn][0] != q or is_over(world):
        found.append("turn")
    if can_take(world, q):
        found.append("line")
    if world.processors[q].status != "on":
        found.append("rest")
    if thrown:
        found.append("thrown")
    return tuple(found)


class Driver:
    """An asker that sees whether the road still holds behind each ask."""

    def __init__(self, machine, world, q, road):
        self.machine = machine
        self.world = world
        self.q = q
        self.road = road
        self.thrown = False

    def answer(self, ask):
        word, after = answered(self.machine, self.world, self.q, ask)
        self.become(after)
        return word

    def become(self, world):
        """The world is another one from now on."""
        self.world = world
        self.thrown = self.thrown or not holds(world, self.road)


def drive(machine, world, road, moment):
    """The instructions done, the cause or None, and the world behind driving the road."""
    check_world(machine, world)
    check_int(moment, 0, None, "moment")
    q = machine.turns[world.turn][0]
    if not may_enter(machine, world, q, road, moment):
        raise BadWorld("road")
    driver = Driver(machine, world, q, road)
    for at, (_, instruction) in enumerate(road):
        cause = carried_out(driver, instruction)
        if cause is not None:
            return at, cause, closed_by(machine, faulted(driver.world, q, cause))
        driver.become(closed_by(machine, driver.world))
        if not _goes_on(driver, at + 1, moment):
            return at + 1, None, driver.world


def may_enter(machine, world, q, road, moment):
    """Whether q, whose turn it is, may enter the road."""
    own = world.processors[q]
    if own.status != "on" or own.place != road.entry or can_take(world, q):
        return False
    return world.moment < moment and is_fresh(machine, world, road)


def _goes_on(driver, at, moment):
    """Whether the road goes on with the instruction of this number."""
    road = driver.road
    if at == len(road) or driver.world.processors[driver.q].place != road.places[at]:
        return False
    return reasons(driver.machine, driver.world, driver.q, moment, driver.thrown) == ()

"""Runs in legs, each by a machine of its own."""

from selfwritten.errors import BadPlan
from selfwritten.makers import Goer, is_maker
from selfwritten.saves import saved, world_of
from selfwritten.widths import is_int, is_row
from selfwritten.worlds import check_world


def legs_run(machine, world, legs):
    """The world behind the legs."""
    check_world(machine, world)
    if not is_row(legs):
        raise BadPlan(-1)
    for at, leg in enumerate(legs):
        if not _is_leg(leg):
            raise BadPlan(at)
    for at, (moment, maker) in enumerate(legs):
        if at > 0:
            world = world_of(saved(world))
        world = Goer(machine, maker, world).go_to(moment)
    return world


def _is_leg(leg):
    if not is_row(leg) or len(leg) != 2:
        return False
    return is_int(leg[0]) and leg[0] >= 0 and is_maker(leg[1])

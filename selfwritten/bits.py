"""Standings: what is known of words behind their lower bits."""

from selfwritten.demands import check_demands
from selfwritten.frames import Frame, coded, entries_of
from selfwritten.widths import check_int, check_words


def standing_parts(pool, numbers):
    """The parts made by add, sub, less or same that the parts are made of."""
    reached = pool.reached_by(numbers)
    return tuple([number for number in reached if entries_of(pool.part(number)[0]) > 0])


def first_standings(pool, demands):
    """The standings ahead of the lowest place."""
    return tuple(Frame(pool, check_demands(pool, demands)).beginnings())


def next_standing(pool, demands, place, standing, bits):
    """The standing behind these bits of the unknowns at this place."""
    frame = Frame(pool, check_demands(pool, demands))
    check_int(place, 0, pool.width - 1, "place")
    code = coded(check_words(standing, 1, frame.many))
    masks = check_words(bits, 1, len(frame.gets))
    # One letter: each mask is the bit itself.
    return tuple(frame.followers(place, code, masks, 1))


def is_end(pool, demands, standing):
    """Whether the standing behind all places tells that all demands are kept."""
    frame = Frame(pool, check_demands(pool, demands))
    return frame.is_end(coded(check_words(standing, 1, frame.many)))

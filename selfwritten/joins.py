"""Roads put behind one another, and beginnings of roads."""

from selfwritten.roads import road_of
from selfwritten.widths import check_int


def joined(book, *roads):
    """The road of all these roads, one behind the other."""
    return road_of(book, [pair for road in roads for pair in road])


def beginning(book, road, many):
    """The road of the first instructions."""
    check_int(many, 1, len(road), "many")
    return road_of(book, list(road)[:many])

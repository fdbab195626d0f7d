"""Plans and offers: what is made where no road lies in the store."""

from selfwritten.errors import BadPlan, BadRow
from selfwritten.mending import good_row
from selfwritten.pairs import MOST_LONGEST
from selfwritten.roads import MOST_INSTRUCTIONS, along_of, straight_of
from selfwritten.rows import Row, check_row
from selfwritten.templates import template
from selfwritten.trimming import trimmed
from selfwritten.widths import check_int, is_int, is_row, is_word, ones
from selfwritten.worlds import check_world

LAST_HOW = 3

# How many rows are remembered before all are forgotten.
MOST_REMEMBERED = 256


def check_plan(plan):
    """Returns the plan as a tuple of tuples."""
    return plan_within(plan, MOST_LONGEST)


def plan_within(plan, longest):
    """As check_plan, for roads of at most so many instructions."""
    if not is_row(plan) or len(plan) == 0:
        raise BadPlan(-1)
    for at, entry in enumerate(plan):
        if not _is_entry(entry, longest):
            raise BadPlan(at)
    return tuple([tuple(entry) for entry in plan])


def _is_entry(entry, longest):
    if not is_row(entry) or len(entry) != 2 or not is_int(entry[0]) or not is_int(entry[1]):
        return False
    return 0 <= entry[0] <= LAST_HOW and 1 <= entry[1] <= longest


def check_offers(offers):
    """Returns the offers as a tuple of tuples, their places as tuples."""
    _check_rows(offers)
    for at, offer in enumerate(offers):
        if not _is_offer(offer):
            raise BadPlan(at)
    return _told_rows(offers)


def check_forced(pair, forced):
    """As check_offers, for forced rows."""
    _check_rows(forced)
    for at, offer in enumerate(forced):
        if not _is_offer(offer) or not _may_be_forced(pair, offer):
            raise BadPlan(at)
    return _told_rows(forced)


def _check_rows(offers):
    if not is_row(offers):
        raise BadPlan(-1)


def _told_rows(offers):
    return tuple([(tuple(places), row) for places, row in offers])


def _is_offer(offer):
    if not is_row(offer) or len(offer) != 2 or not is_row(offer[0]):
        return False
    places, row = offer
    if not 1 <= len(places) <= MOST_INSTRUCTIONS:
        return False
    if not all([is_int(place) and place >= 0 for place in places]):
        return False
    return row is None or isinstance(row, Row)


def _may_be_forced(pair, offer):
    """Whether the row is one, has a hand for each boundary of the places, and fits the pair."""
    places, row = offer
    if row is None or len(row.hands) != len(places) + 1:
        return False
    try:
        check_row(pair, row)
    except BadRow:
        return False
    return True


def proposed(machine, pair, world, entry, how, longest, offers):
    """The road and the row that are proposed at an entry, or None."""
    check_world(machine, world)
    check_int(entry, 0, ones(machine.word), "entry")
    check_int(how, 0, LAST_HOW, "how")
    check_int(longest, 1, pair.longest, "longest")
    return Proposer(machine, pair, check_offers(offers)).propose(world, entry, how, longest)


def road_suiting(machine, pair, world, entry, places):
    """The road along these places if they suit the entry, or None."""
    if places[0] != entry or len(places) > pair.longest:
        return None
    if not all([is_word(place, machine.word) for place in places]):
        return None
    road = along_of(machine, world, places)
    return road if road is not None and len(road) == len(places) else None


class Proposer:
    """Proposes roads and rows; remembers rows that it made, and what it found out of offers."""

    def __init__(self, machine, pair, offers):
        self.machine = machine
        self.pair = pair
        self.offers = offers
        self.rows = {}
        self.good = {}

    def propose(self, world, entry, how, longest):
        """The road and the row that are proposed, or None."""
        if how == 0:
            return None
        if how == 3:
            many = len(self.offers)
            for at in range(many):
                found = self._offered(world, entry, at)
                if found is not None:
                    return found
        road = straight_of(self.machine, world, entry, longest)
        if road is None:
            return None
        return (road, self.trimmed_row(road) if how == 2 else self.template_row(road))

    def _offered(self, world, entry, at):
        """The road and the row of an offer if it is taken, or None."""
        places, row = self.offers[at]
        road = road_suiting(self.machine, self.pair, world, entry, places)
        if road is None:
            return None
        if row is None:
            return (road, self.trimmed_row(road))
        return (road, row) if self._is_good(road, at) else None

    def _is_good(self, road, at):
        """Whether the row of an offer is good for the road."""
        key = (at, road.pairs)
        if key not in self.good:
            if len(self.good) >= MOST_REMEMBERED:
                self.good = {}
            self.good[key] = good_row(self.pair, road, self.offers[at][1])
        return self.good[key]

    def template_row(self, road):
        key = ("template", road.pairs)
        if key not in self.rows:
            self._remember(key, template(self.pair, road))
        return self.rows[key]

    def trimmed_row(self, road):
        key = ("trimmed", road.pairs)
        if key not in self.rows:
            self._remember(key, trimmed(self.pair, road))
        return self.rows[key]

    def _remember(self, key, row):
        if len(self.rows) >= MOST_REMEMBERED:
            self.rows = {}
        self.rows[key] = row

"""Walkers who go step by step, and when they can meet."""

from alljourneys.atlases import ATLAS_SPOTS, Atlas
from alljourneys.checks import require_place, require_spot
from alljourneys.errors import BadNumber, TakenName, TooMany
from alljourneys.maps import ROAD_LIMIT, Road, map_of, require_few, require_near
from alljourneys.plains import missed_cell
from alljourneys.services import sheets_to
from alljourneys.travellers import require_short


class Meeting:
    """The first moment at which walkers can meet, where, and how."""

    def __init__(self, moment, spot, legs):
        self.moment = moment
        self.spot = spot
        self.legs = legs


def _require_new(names):
    """Raise TakenName for the first name that stands twice."""
    taken = {}
    for name in names:
        if name in taken:
            raise TakenName(name)
        taken[name] = True


def _steps_of(road):
    """The roads of price 1 that a road is gone in."""
    stops = [road.start] + [f"{road.name}.{number}" for number in range(1, road.price)] + [road.end]
    shifts = [(0, 0) for _ in range(road.price - 1)] + [road.shift]
    return [Road(f"{road.name}.{number + 1}", stops[number], stops[number + 1], shift, 1)
            for number, shift in enumerate(shifts)]


def unit_map(land, waits=()):
    """The Map in which each road is gone in steps of price 1, and one may wait at some spots."""
    for spot in waits:
        require_spot(land, spot)
    steps = [_steps_of(road) for road in land.roads]
    spots = list(land.spots) + [step.end for row in steps for step in row[:-1]]
    roads = [step for row in steps for step in row] + [Road(f"{spot}.wait", spot, spot, (0, 0), 1) for spot in waits]
    names = [road.name for road in roads]
    _require_new(spots)
    _require_new(names)
    require_few(len(spots), len(roads))
    require_short(spots)
    require_short(names)
    return map_of(spots, roads)


class Walkers:
    """Two walkers on two maps in the same plane."""

    def __init__(self, one, other):
        for land in (one, other):
            for road in land.roads:
                if road.price != 1:
                    raise BadNumber("price", road.price)
        spots = [f"{first}.{second}" for first in one.spots for second in other.spots]
        roads = [_pair_of(first, second) for first in one.roads for second in other.roads]
        names = [road.name for road in roads]
        _require_new(spots)
        _require_new(names)
        if len(spots) > ATLAS_SPOTS:
            raise TooMany("spots", len(spots), ATLAS_SPOTS)
        if len(roads) > ROAD_LIMIT:
            raise TooMany("roads", len(roads), ROAD_LIMIT)
        require_short(spots)
        require_short(names)
        for road in roads:
            require_near(road.shift)
        self.one = one
        self.other = other
        self.land = map_of(spots, roads)
        self._atlas = Atlas(self.land)
        self._meeting_spots = [spot for spot in one.spots if spot in other.spots]

    def spot_of(self, first, second):
        """The name of the spot of the pairs of places of two spots."""
        require_spot(self.one, first)
        require_spot(self.other, second)
        return f"{first}.{second}"

    def _goals(self):
        """The list of tuples of a spot at which they can meet, and of the place for it."""
        return [(spot, (self.spot_of(spot, spot), 0, 0)) for spot in self._meeting_spots]

    def earliest(self, first, second):
        """The Meeting of walkers who begin at two places at the same moment; None if they can never meet."""
        require_place(self.one, first, "first")
        require_place(self.other, second, "second")
        start = (self.spot_of(first[0], second[0]), second[1] - first[1], second[2] - first[2])
        found = []
        for spot, goal in self._goals():
            moment = self._atlas.least_price(start, goal)
            if moment is not None:
                found.append((moment, spot, goal))
        if not found:
            return None
        moment, spot, goal = min(found)
        return Meeting(moment, spot, self._atlas.route(start, goal))

    def apart(self, first, second):
        """A cell of the second one beside (0, 0) of the first one from which they never meet; None if there is none."""
        start = self.spot_of(first, second)
        return missed_cell([sheet for _, goal in self._goals() for sheet in sheets_to(self._atlas, start, goal)])


def _pair_of(first, second):
    """The road of pairs for two roads that are gone at the same time."""
    shift = (second.shift[0] - first.shift[0], second.shift[1] - first.shift[1])
    return Road(f"{first.name}.{second.name}", f"{first.start}.{second.start}", f"{first.end}.{second.end}", shift, 1)

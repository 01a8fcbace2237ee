"""Travellers, who go over a map by rules, and their expanded maps."""

from alljourneys.checks import NAME_LIMIT, require_place, require_spot
from alljourneys.errors import BadJourney, TooLarge, Unlike
from alljourneys.journeys import place_behind, road_from
from alljourneys.maps import Road, map_of, require_few
from alljourneys.rules import Rules


def _named(name, standing):
    """The name of a spot or a road of the expanded map: with the parts that a standing has."""
    return ".".join([name] + [str(part) for part in standing if part is not None])


def require_short(names):
    """Raise TooLarge for the first name that is too long."""
    for name in names:
        if len(name) > NAME_LIMIT:
            raise TooLarge("name", len(name), NAME_LIMIT)


class Traveller:
    """One who goes over a map by the rules of a text.

    A standing is a tuple of the state, the level and the number of the last road,
    each of them None if the text has no lines for it.
    """

    def __init__(self, land, text):
        self._rules = Rules(land, text)
        self.land = land
        self.text = text
        self.states = tuple(list(self._rules.states))
        self.tank = self._rules.tank
        barring = {first: True for first, _ in self._rules.bars}
        self._lasts = {spot: [road.name for road in land.roads if road.end == spot and road.name in barring]
                       for spot in land.spots}
        many = sum([self._standing_count(spot) for spot in land.spots])
        require_few(many, 0)
        rows = [(road, standing) for road in land.roads for standing in self._standings(road.start)
                if self.behind(road, standing) is not None]
        require_few(many, len(rows))
        spots = [_named(spot, standing) for spot in land.spots for standing in self._standings(spot)]
        self._plain = {_named(road.name, standing): road.name for road, standing in rows}
        require_short(spots)
        require_short(list(self._plain))
        self.expanded = map_of(spots, [self._expanded_road(road, standing) for road, standing in rows])

    def _standing_count(self, spot):
        """How many standings a spot has."""
        levels = 1 if self.tank is None else self.tank + 1
        return max(1, len(self.states)) * levels * (len(self._lasts[spot]) + 1)

    def _standings(self, spot):
        """The list of the standings at a spot."""
        states = self.states if self.states else (None,)
        levels = (None,) if self.tank is None else tuple(range(self.tank + 1))
        lasts = tuple(range(len(self._lasts[spot]) + 1)) if self._rules.bars else (None,)
        return [(state, level, last) for state in states for level in levels for last in lasts]

    def _expanded_road(self, road, standing):
        """The road of the expanded map for a road that is gone with a standing."""
        start, end = _named(road.start, standing), _named(road.end, self.behind(road, standing))
        return Road(_named(road.name, standing), start, end, road.shift, road.price, road.label)

    def first_standing(self):
        """The standing at the start."""
        return (self.states[0] if self.states else None, self.tank, 0 if self._rules.bars else None)

    def may_end(self, standing):
        """Whether the traveller may end with a standing."""
        return not self._rules.lasts or standing[0] in self._rules.lasts

    def behind(self, road, standing):
        """The standing behind a road that is gone with a standing; None if it can not be gone."""
        state, level, last = standing
        if last is not None:
            if last > 0 and (self._lasts[road.start][last - 1], road.name) in self._rules.bars:
                return None
            names = self._lasts[road.end]
            last = names.index(road.name) + 1 if road.name in names else 0
        if state is not None and road.label is not None:
            state = self._rules.steps.get((state, road.label))
            if state is None:
                return None
        if level is not None:
            level = level - self._rules.burns.get(road.name, 0)
            if level < 0:
                return None
            level = self.tank if road.end in self._rules.wells else level
        return (state, level, last)

    def first_spot(self, spot):
        """The name of the spot of the expanded map at which a traveller stands that starts at this spot."""
        require_spot(self.land, spot)
        return _named(spot, self.first_standing())

    def last_spots(self, spot):
        """The names of the spots of the expanded map, of standings at this spot, at which the traveller may end."""
        require_spot(self.land, spot)
        return tuple([_named(spot, standing) for standing in self._standings(spot) if self.may_end(standing)])

    def _gone(self, start, journey):
        """The list of the places and standings on a journey, from the start on."""
        require_place(self.land, start, "start")
        stops = [(start, self.first_standing())]
        for index, name in enumerate(journey):
            place, standing = stops[-1]
            road = road_from(self.land, name, place[0], index)
            standing = self.behind(road, standing)
            if standing is None:
                raise BadJourney(index)
            stops.append((place_behind(place, road), standing))
        return stops

    def went(self, start, journey):
        """A tuple of pairs of a place and the name of a spot of the expanded map: the start, then behind each road."""
        return tuple([(place, _named(place[0], standing)) for place, standing in self._gone(start, journey)])

    def lifted(self, start, journey):
        """The journey of the expanded map that a journey from start is."""
        stops = self._gone(start, journey)
        return tuple([_named(name, standing) for name, (_, standing) in zip(journey, stops)])

    def plain(self, journey):
        """The names of the roads of the map that these roads of the expanded map are."""
        names = []
        for index, name in enumerate(journey):
            if not isinstance(name, str) or name not in self._plain:
                raise BadJourney(index)
            names.append(self._plain[name])
        return tuple(names)


class Search:
    """The search for a shortest journey that tells two travellers apart, from all spots at once."""

    def __init__(self, one, other):
        self.one = one
        self.other = other
        self.seen = {}
        self.waiting = []

    def reach(self, spot, standings, told):
        """Note that both come to the spot with these standings; told, if just one may end there, otherwise None."""
        if self.one.may_end(standings[0]) != self.other.may_end(standings[1]):
            return told
        if (spot, standings) not in self.seen:
            self.seen[(spot, standings)] = True
            self.waiting.append((spot, standings, told))
        return None

    def follow(self, spot, standings, told):
        """Go all roads from a spot; told with the first one that tells them apart, otherwise None."""
        for road in self.one.land.roads_from(spot):
            longer = (told[0], (*told[1], road.name))
            first, second = self.one.behind(road, standings[0]), self.other.behind(road, standings[1])
            if (first is None) != (second is None):
                return longer
            if first is not None:
                found = self.reach(road.end, (first, second), longer)
                if found is not None:
                    return found
        return None


def parting(one, other):
    """A pair of a spot and a shortest journey from it that tells two travellers apart; None if they are alike."""
    if one.land != other.land:
        raise Unlike("map")
    search = Search(one, other)
    for spot in one.land.spots:
        found = search.reach(spot, (one.first_standing(), other.first_standing()), (spot, ()))
        if found is not None:
            return found
    at = 0
    while at < len(search.waiting):
        spot, standings, told = search.waiting[at]
        found = search.follow(spot, standings, told)
        if found is not None:
            return found
        at += 1
    return None

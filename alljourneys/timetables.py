"""Timetables, which tell when roads may be entered, and their expanded maps."""

from alljourneys.checks import require_place, require_spot
from alljourneys.errors import BadJourney
from alljourneys.hours import Hours
from alljourneys.journeys import place_behind, road_from
from alljourneys.maps import Road, map_of, require_few
from alljourneys.travellers import require_short


class Timetable:
    """A timetable of a map, read from its text."""

    def __init__(self, land, text):
        self._hours = Hours(land, text)
        self.land = land
        self.text = text
        self.period = self._hours.period
        self.stops = tuple([spot for spot in land.spots if spot in self._hours.stops])
        roads = self._expanded_roads()
        require_few(self.period * len(land.spots), len(roads))
        spots = [self.spot_at(spot, phase) for spot in land.spots for phase in range(self.period)]
        require_short(spots)
        require_short([road.name for _, road in roads])
        self._entries = {road.name: entry for entry, road in roads}
        self.expanded = map_of(spots, [road for _, road in roads])

    def _expanded_roads(self):
        """The list of tuples of an entry and the Road of the expanded map that it is at some phase."""
        rows = []
        for road in self.land.roads:
            for phase in range(self.period):
                if self.may_enter(road.name, phase):
                    end = self.spot_at(road.end, phase + road.price)
                    name = f"{road.name}.{phase}"
                    start = self.spot_at(road.start, phase)
                    rows.append((road.name, Road(name, start, end, road.shift, road.price, road.label)))
        for spot in self.stops:
            for phase in range(self.period):
                start, end = self.spot_at(spot, phase), self.spot_at(spot, phase + 1)
                rows.append((None, Road(f"{start}.wait", start, end, (0, 0), 1)))
        return rows

    def may_enter(self, road, moment):
        """Whether the road of this name may be entered at a moment."""
        name = self.land.road_named(road).name
        phases = self._hours.phases.get(name)
        return phases is None or moment % self.period in phases

    def spot_at(self, spot, moment):
        """The name of the spot of the expanded map for a spot at a moment."""
        require_spot(self.land, spot)
        return f"{spot}.{moment % self.period}"

    def _behind(self, moment, place, entry, index):
        """The moment and the place behind an entry of a ride; BadJourney(index) if it cannot be gone."""
        if entry is None:
            if place[0] not in self.stops:
                raise BadJourney(index)
            return (moment + 1, place)
        road = road_from(self.land, entry, place[0], index)
        if not self.may_enter(road.name, moment):
            raise BadJourney(index)
        return (moment + road.price, place_behind(place, road))

    def went(self, start, moment, ride):
        """A tuple of pairs of a moment and a place: the start, then behind each entry of the ride."""
        require_place(self.land, start, "start")
        stages = [(moment, start)]
        for index, entry in enumerate(ride):
            stages.append(self._behind(stages[-1][0], stages[-1][1], entry, index))
        return tuple(stages)

    def lifted(self, start, moment, ride):
        """The journey of the expanded map that a ride is."""
        names = []
        for entry, (now, place) in zip(ride, self.went(start, moment, ride)):
            names.append(f"{self.spot_at(place[0], now)}.wait" if entry is None else f"{entry}.{now % self.period}")
        return tuple(names)

    def plain(self, journey):
        """The entries that these roads of the expanded map are."""
        entries = []
        for index, name in enumerate(journey):
            if not isinstance(name, str) or name not in self._entries:
                raise BadJourney(index)
            entries.append(self._entries[name])
        return tuple(entries)

"""Least prices of travellers."""

from alljourneys.atlases import Atlas
from alljourneys.checks import require_place, require_spot
from alljourneys.comparing import dearer
from alljourneys.errors import Unlike


class Trips:
    """All least prices of one traveller."""

    def __init__(self, traveller):
        self.atlas = Atlas(traveller.expanded)
        self.traveller = traveller

    def _best(self, start, goal):
        """The least price from place to place, and the place of the expanded map that it leads to; None if none."""
        require_place(self.traveller.land, start, "start")
        require_place(self.traveller.land, goal, "goal")
        first = self._first(start)
        found = []
        for number, spot in enumerate(self.traveller.last_spots(goal[0])):
            price = self.atlas.least_price(first, (spot, goal[1], goal[2]))
            if price is not None:
                found.append((price, number, (spot, goal[1], goal[2])))
        return min(found, default=None)

    def _first(self, start):
        """The place of the expanded map at which the traveller stands that starts at a place."""
        return (self.traveller.first_spot(start[0]), start[1], start[2])

    def least_price(self, start, goal):
        """The least price of the traveller from place to place; None if there is none."""
        best = self._best(start, goal)
        return None if best is None else best[0]

    def route(self, start, goal):
        """The legs, over the map, of a journey for the least price; None if there is none."""
        best = self._best(start, goal)
        if best is None:
            return None
        legs = self.atlas.route(self._first(start), best[2])
        return tuple([(self.traveller.plain(journey), times) for journey, times in legs])

    def sheets(self, start, goal):
        """The sheets of the atlas from where the traveller starts to where it may end, for two spots of the map."""
        require_spot(self.traveller.land, start)
        require_spot(self.traveller.land, goal)
        found = []
        for spot in self.traveller.last_spots(goal):
            found.extend(self.atlas.sheets(self.traveller.first_spot(start), spot))
        return tuple(found)


def surcharges(one, other, spot):
    """For each spot as a goal, by how much the other traveller's prices from this spot are dearer."""
    land = one.traveller.land
    if land != other.traveller.land:
        raise Unlike("map")
    require_spot(land, spot)
    return tuple([dearer(one.sheets(spot, goal), other.sheets(spot, goal)) for goal in land.spots])

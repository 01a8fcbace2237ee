"""Atlases: the least prices between all places of a map."""

from alljourneys.checks import require_place, require_spot
from alljourneys.errors import TooMany
from alljourneys.fans import Fan
from alljourneys.filling import covers_of
from alljourneys.groves import Ground
from alljourneys.nets import net_of
from alljourneys.papers import Paper
from alljourneys.seeding import seeded_grove

ATLAS_SPOTS = 12


class Atlas:
    """All least prices of a map; what they are from a start is found when it is asked for first, and kept."""

    def __init__(self, land):
        if len(land.spots) > ATLAS_SPOTS:
            raise TooMany("spots", len(land.spots), ATLAS_SPOTS)
        self.land = land
        self._net = net_of(land)
        # The ground is made when it is asked for first, as some maps have very many loops.
        self._grounds = []
        self._groves = {}
        self._covers = {}
        self._fans = {}

    def _grove(self, start):
        """The grove from a spot, complete."""
        if start not in self._groves:
            if not self._grounds:
                self._grounds.append(Ground(self._net))
            grove = seeded_grove(self._grounds[0], self._net.spot_numbers[start])
            self._covers[start] = covers_of(grove)
            self._fans[start] = tuple([
                Fan(self.land.spots[stem.trail.end], stem.sheet, stem.trail.names(), stem.trail.rounds_of(stem.loops))
                for stem in grove.stems])
            self._groves[start] = grove
        return self._groves[start]

    def fans_from(self, start):
        """A tuple of fans from a spot, whose sheets have each reached place for its least price."""
        require_spot(self.land, start)
        self._grove(start)
        return self._fans[start]

    def sheets(self, start, spot):
        """The sheets of the fans from start that have this spot."""
        require_spot(self.land, start)
        require_spot(self.land, spot)
        return tuple([fan.sheet for fan in self.fans_from(start) if fan.spot == spot])

    def paper(self, start):
        """A Paper that holds, with this start and its fans."""
        return Paper(start, self.fans_from(start), self._covers[start])

    def _best(self, start, goal):
        """The least price from place to place and the stem that has it, in a tuple; None if goal is not reached."""
        grove = self._grove(start[0])
        cell = (goal[1] - start[1], goal[2] - start[2])
        return grove.best_at(self._net.spot_numbers[goal[0]], cell)

    def least_price(self, start, goal):
        """The least price from place to place; None if goal is not reached."""
        require_place(self.land, start, "start")
        require_place(self.land, goal, "goal")
        best = self._best(start, goal)
        return None if best is None else best[0]

    def route(self, start, goal):
        """A tuple of the legs of a cheapest journey from place to place; None if goal is not reached."""
        require_place(self.land, start, "start")
        require_place(self.land, goal, "goal")
        best = self._best(start, goal)
        if best is None:
            return None
        stem = best[1]
        counts = stem.sheet.counts((goal[1] - start[1], goal[2] - start[2]))
        return stem.trail.legs_with(stem.loops, counts)

    def first_roads(self, start, goal):
        """The names of all roads with which a cheapest journey from place to place can begin."""
        price = self.least_price(start, goal)
        if price is None:
            return ()
        names = []
        for road in self.land.roads_from(start[0]):
            there = (road.end, start[1] + road.shift[0], start[2] + road.shift[1])
            rest = self._best(there, goal)
            if rest is not None and rest[0] + road.price == price:
                names.append(road.name)
        return tuple(names)

"""The same endless map by other cells and other names."""

from alljourneys.building import widened
from alljourneys.checks import is_place, require_place
from alljourneys.errors import BadNumber, BadPlace, NoSpot, Unlike
from alljourneys.journeys import place_behind, road_from
from alljourneys.lattices import Lattice, applied, determinant, matrix_of, product_of


class Matching:
    """What brings the places of one map to the places of another one."""

    def __init__(self, matrix, spots):
        self.matrix = matrix_of(matrix)
        self.spots = {spot: spots[spot] for spot in spots}

    def __eq__(self, other):
        return isinstance(other, Matching) and self.matrix == other.matrix and self.spots == other.spots

    def image(self, place):
        """The place to which the matching brings a place."""
        if not is_place(place):
            raise BadPlace("place")
        if place[0] not in self.spots:
            raise NoSpot(place[0])
        spot, x, y = self.spots[place[0]]
        more = applied(self.matrix, (place[1], place[2]))
        return (spot, x + more[0], y + more[1])

    def then(self, other):
        """The Matching that brings each place to the image, by the other one, of its image."""
        spots = {spot: other.image(self.spots[spot]) for spot in sorted(list(self.spots))}
        return Matching(product_of(other.matrix, self.matrix), spots)


def _require_fitting(one, other, matching):
    """Raise the error of a matching that does not bring each place of one to a place of other, and each just once."""
    for spot in one.spots:
        if spot not in matching.spots:
            raise NoSpot(spot)
    images = [matching.spots[spot] for spot in one.spots]
    for image in images:
        if image[0] not in other.spots:
            raise NoSpot(image[0])
    size = abs(determinant(matching.matrix))
    if size == 0:
        raise BadNumber("matrix", 0)
    lattice = Lattice(matching.matrix)
    taken = {(image[0], lattice.remainder((image[1], image[2]))): True for image in images}
    # So many remainders, all of them different, are all remainders of all spots.
    if len(taken) != len(images) or len(images) != size * len(other.spots):
        raise Unlike("places")


def _partners_at(one, other, matching, spot):
    """The roads of one that start at the spot, those of other that start at its image, and pairs of their names."""
    start = matching.spots[spot]
    ours, theirs = one.roads_from(spot), other.roads_from(start[0])
    waiting = {}
    for road in theirs:
        waiting.setdefault((road.price, road.label, place_behind(start, road)), []).append(road.name)
    partners = {}
    for road in ours:
        alike = waiting.get((road.price, road.label, matching.image(place_behind((spot, 0, 0), road))), [])
        if alike:
            partners[road.name] = alike.pop(0)
    return ours, theirs, partners


def mismatch(one, other, matching):
    """The first road without a partner, as a tuple of 0 or 1 and its name; None if there is none."""
    _require_fitting(one, other, matching)
    for spot in one.spots:
        ours, theirs, partners = _partners_at(one, other, matching, spot)
        found = list(partners.values())
        alone = [(0, road.name) for road in ours if road.name not in partners]
        alone.extend([(1, road.name) for road in theirs if road.name not in found])
        if alone:
            return alone[0]
    return None


def _partners(one, other, matching):
    """The names of the partners of all roads of one, by their names; Unlike if there is a mismatch."""
    if mismatch(one, other, matching) is not None:
        raise Unlike("roads")
    partners = {}
    for spot in one.spots:
        partners.update(_partners_at(one, other, matching, spot)[2])
    return partners


def partner(one, other, matching, name):
    """The name of the road of other that is the partner of the road of one with this name."""
    partners = _partners(one, other, matching)
    return partners[one.road_named(name).name]


def carried(one, other, matching, start, journey):
    """The image of start, and the journey of the partners of the roads of a journey from there."""
    require_place(one, start, "start")
    partners = _partners(one, other, matching)
    names = []
    spot = start[0]
    for index, name in enumerate(journey):
        road = road_from(one, name, spot, index)
        names.append(partners[road.name])
        spot = road.end
    return (matching.image(start), tuple(names))


def widening(land, matrix):
    """The Matching from the widened map to the map that brings each place to the same place of the endless map."""
    wide = widened(land, matrix)
    cells = Lattice(matrix).remainders()
    places = [(spot, x, y) for spot in land.spots for x, y in cells]
    return Matching(matrix, {name: place for name, place in zip(wide.spots, places)})

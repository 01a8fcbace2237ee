"""Maps made of maps."""

from alljourneys.checks import require_spot
from alljourneys.errors import BadNumber, BadText, TooMany
from alljourneys.lattices import Lattice, applied, applied_back, determinant
from alljourneys.maps import ROAD_LIMIT, Road, map_of, require_few, require_price, road_of, road_rule
from alljourneys.words import one_of, read_line


def _with_shift(road, shift):
    """The road with another shift."""
    return Road(road.name, road.start, road.end, shift, road.price, road.label)


def turned(land):
    """The map of which each road leads from its end to its start."""
    roads = [Road(road.name, road.end, road.start, (-road.shift[0], -road.shift[1]), road.price, road.label)
             for road in land.roads]
    return map_of(land.spots, roads)


def sheared(land, matrix):
    """The map of which each shift is what the matrix makes of it."""
    size = determinant(matrix)
    if size not in (1, -1):
        raise BadNumber("matrix", size)
    return map_of(land.spots, [_with_shift(road, applied(matrix, road.shift)) for road in land.roads])


def recounted(land, spot, cell):
    """The same endless map, in which the places of the spot are counted from another cell on."""
    require_spot(land, spot)
    roads = []
    for road in land.roads:
        # A road that both begins and ends at the spot is moved at both of its ends.
        times = (1 if road.start == spot else 0) - (1 if road.end == spot else 0)
        roads.append(_with_shift(road, (road.shift[0] + times * cell[0], road.shift[1] + times * cell[1])))
    return map_of(land.spots, roads)


def joined(one, other):
    """The map with the spots and the roads of both maps."""
    spots = list(one.spots) + [spot for spot in other.spots if spot not in one.spots]
    return map_of(spots, list(one.roads) + list(other.roads))


def without(land, names):
    """The map without the roads of these names."""
    left_out = {land.road_named(name).name: True for name in names}
    return map_of(land.spots, [road for road in land.roads if road.name not in left_out])


class RoadLine:
    """The kind of a line of a road that can stand behind the text of a map."""

    def __init__(self, land):
        self.land = land

    def allowed(self, words):
        """What may stand behind these words of the line."""
        if not words:
            return one_of(("road",))
        return road_rule(words, {road.name: True for road in self.land.roads}, self.land.spots)

    def may_end(self, words):
        """Whether the line may consist of these words."""
        return len(words) in (7, 8)


def with_road(land, line):
    """The map with one more road, which the line tells."""
    if len(land.roads) >= ROAD_LIMIT:
        raise TooMany("roads", len(land.roads) + 1, ROAD_LIMIT)
    words, wrong = read_line(line, RoadLine(land))
    if wrong is not None:
        raise BadText(1, wrong + 1)
    return map_of(land.spots, list(land.roads) + [road_of(words)])


def repriced(land, name, price):
    """The map in which the road of this name has the price."""
    changed = land.road_named(name)
    require_price(price)
    new = Road(changed.name, changed.start, changed.end, changed.shift, price, changed.label)
    return map_of(land.spots, [new if road.name == changed.name else road for road in land.roads])


def _wide_roads(road, matrix, lattice):
    """The roads that a road becomes in the map with the cells of the lattice."""
    roads = []
    for number, (i, j) in enumerate(lattice.remainders()):
        cell = (i + road.shift[0], j + road.shift[1])
        left = lattice.remainder(cell)
        shift = applied_back(matrix, (cell[0] - left[0], cell[1] - left[1]))
        end = f"{road.end}.{lattice.number_of(left)}"
        roads.append(Road(f"{road.name}.{number}", f"{road.start}.{number}", end, shift, road.price, road.label))
    return roads


def widened(land, matrix):
    """The same endless map with cells that begin where the matrix tells."""
    size = abs(determinant(matrix))
    if size == 0:
        raise BadNumber("matrix", 0)
    require_few(size * len(land.spots), size * len(land.roads))
    lattice = Lattice(matrix)
    spots = [f"{spot}.{number}" for spot in land.spots for number in range(size)]
    return map_of(spots, [wide for road in land.roads for wide in _wide_roads(road, matrix, lattice)])

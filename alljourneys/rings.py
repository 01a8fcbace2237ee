"""Rings: journeys that come back to the very place at which they begin, and proofs that there are none."""

from alljourneys.checks import is_integer
from alljourneys.circling import Part, Turning, numbers_by, parts_of_rounds, ranked
from alljourneys.nets import net_of


class Ring:
    """A round without a shift, as legs from a spot."""

    def __init__(self, spot, legs):
        self.spot = spot
        self.legs = legs


class Levels:
    """Numbers for all spots that show, level by level, that there is no ring."""

    def __init__(self, rows):
        self.rows = rows


def _is_level(land, value):
    """Whether any value is a tuple of a tuple of three integers for each spot."""
    if not isinstance(value, tuple) or len(value) != len(land.spots):
        return False
    return all([isinstance(row, tuple) and len(row) == 3 and all([is_integer(number) for number in row])
                for row in value])


def _left_behind(land, roads, level):
    """The list of the roads of growth 0 at a level; None if one is not as it must be."""
    numbers = {spot: row for spot, row in zip(land.spots, level)}
    left = []
    for road in roads:
        (a, b, n), (c, d, m) = numbers[road.start], numbers[road.end]
        growth = a * road.shift[0] + b * road.shift[1] + m - n
        if (a, b) != (c, d) or growth < 0:
            return None
        if growth == 0:
            left.append(road)
    return left


def levels_hold(land, levels):
    """Whether any value is Levels that hold for the map."""
    if not isinstance(levels, Levels) or not isinstance(levels.rows, tuple):
        return False
    roads = list(land.roads)
    for level in levels.rows:
        if not _is_level(land, level):
            return False
        roads = _left_behind(land, roads, level)
        if roads is None:
            return False
    return not roads


def ring_of(land):
    """A Ring of the map, or Levels that hold if there is none."""
    net = net_of(land)
    if not net.links:
        return Levels(())
    ranks, left = ranked(Part(net.spots, net.links))
    rows = [tuple([(0, 0, rank) for rank in ranks])]
    while left:
        numbers, behind = {}, []
        for part in parts_of_rounds(Part(net.spots, left)):
            turning = Turning(part)
            if turning.ring is not None:
                return Ring(net.spots[turning.ring[0]], turning.ring[1])
            found, kept = numbers_by(part, turning.line)
            numbers.update(found)
            behind.extend(kept)
        rows.append(tuple([numbers.get(spot, (0, 0, 0)) for spot in range(len(net.spots))]))
        left = behind
    return Levels(tuple(rows))

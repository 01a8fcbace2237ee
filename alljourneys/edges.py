"""The sides to which the rounds of a map lead."""

from alljourneys.checks import is_cell, is_integer, is_spot
from alljourneys.hunts import line_of
from alljourneys.journeys import price_of, round_along, shift_of
from alljourneys.loops import Fronts, loops_of
from alljourneys.nets import net_of
from alljourneys.rates import descent_from_all, names_of, times_line
from alljourneys.sheets import cross


class Apart:
    """No journey leads from the one spot to the other one."""

    def __init__(self, start, end):
        self.start = start
        self.end = end


class OneSided:
    """No round leads to the other side of the line."""

    def __init__(self, line, worths):
        self.line = line
        self.worths = worths


class Around:
    """Rounds lead to all sides; the edges go around once."""

    def __init__(self, edges):
        self.edges = edges


class Edge:
    """Two rounds with the same bottom times the price by a line that no round beats."""

    def __init__(self, first, second, line, bottom, worths):
        self.first = first
        self.second = second
        self.line = line
        self.bottom = bottom
        self.worths = worths


def _ends_from(land, start):
    """The dict of the spots to which journeys from a spot lead."""
    found = {start: True}
    waiting = [start]
    while waiting:
        for road in land.roads_from(waiting.pop()):
            if road.end not in found:
                found[road.end] = True
                waiting.append(road.end)
    return found


def _apart_of(land):
    """An Apart of the map; None if its spots hang together."""
    for start in land.spots:
        found = _ends_from(land, start)
        for end in land.spots:
            if end not in found:
                return Apart(start, end)
    return None


def _edge_of(net, one, two):
    """The Edge of two neighbours on the hull of the rates."""
    line, bottom = line_of(one, two)
    costs = [bottom * link.price - times_line(line, link.shift) for link in net.links]
    worths = tuple(descent_from_all(net, costs).heights)
    return Edge(names_of(one.options()[0].links), names_of(two.options()[0].links), line, bottom, worths)


def around(land):
    """How the rounds of the map lie: an Apart, a OneSided or an Around."""
    apart = _apart_of(land)
    if apart is not None:
        return apart
    net = net_of(land)
    fronts = Fronts(loops_of(net))
    if fronts.is_closed:
        return Around(tuple([_edge_of(net, one, two) for one, two in fronts.pairs]))
    # All rays lie to the left of the first one, or on its line.
    x, y = fronts.rays[0].shift if fronts.rays else (0, -1)
    line = (-y, x)
    heights = descent_from_all(net, [times_line(line, link.shift) for link in net.links]).heights
    return OneSided(line, tuple([-height for height in heights]))


def are_worths(land, value):
    """Whether any value is a tuple of an integer for each spot."""
    return isinstance(value, tuple) and len(value) == len(land.spots) and all([is_integer(worth) for worth in value])


def _slacks(land, line, bottom, worths):
    """For each road, by how much bottom times its price is more than what the line and the worths give it."""
    worth_of = {spot: worth for spot, worth in zip(land.spots, worths)}
    return [bottom * road.price - times_line(line, road.shift) - worth_of[road.end] + worth_of[road.start]
            for road in land.roads]


def _round_told(land, journey):
    """The Roads of a round from whatever spot; None if the value is none."""
    if not isinstance(journey, tuple) or not journey or not isinstance(journey[0], str):
        return None
    starts = [road.start for road in land.roads if road.name == journey[0]]
    return round_along(land, starts[0], journey) if starts else None


def _edge_ends(land, edge):
    """The Roads of the two rounds of an edge that is right by itself; None if the value is no such edge."""
    if not isinstance(edge, Edge) or not is_cell(edge.line) or not are_worths(land, edge.worths):
        return None
    if not is_integer(edge.bottom) or edge.bottom < 1:
        return None
    ends = [_round_told(land, edge.first), _round_told(land, edge.second)]
    if None in ends or cross(shift_of(ends[0]), shift_of(ends[1])) <= 0:
        return None
    if any([times_line(edge.line, shift_of(roads)) != edge.bottom * price_of(roads) for roads in ends]):
        return None
    return ends if min(_slacks(land, edge.line, edge.bottom, edge.worths)) >= 0 else None


def _edges_hold(land, edges):
    """Whether any value is a tuple of edges that go around once."""
    if not isinstance(edges, tuple) or len(edges) < 3:
        return False
    rows = [_edge_ends(land, edge) for edge in edges]
    if any([row is None for row in rows]):
        return False
    crossings = 0
    for (first, second), (following, _) in zip(rows, rows[1:] + rows[:1]):
        (x, y), (s, t) = shift_of(second), shift_of(following)
        v, w = price_of(second), price_of(following)
        if (x * w, y * w) != (s * v, t * v):
            return False
        if shift_of(first)[1] <= 0 < y:
            crossings += 1
    return crossings == 1


def around_holds(land, value):
    """Whether any value is an Apart, a OneSided or an Around that is right for the map."""
    if isinstance(value, Apart):
        if not is_spot(land, value.start) or not is_spot(land, value.end):
            return False
        return value.end not in _ends_from(land, value.start)
    if _apart_of(land) is not None:
        return False
    if isinstance(value, OneSided):
        if not is_cell(value.line) or value.line == (0, 0) or not are_worths(land, value.worths):
            return False
        return all([slack <= 0 for slack in _slacks(land, value.line, 0, value.worths)])
    return isinstance(value, Around) and _edges_hold(land, value.edges)

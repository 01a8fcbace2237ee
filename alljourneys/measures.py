"""What far places cost, and what lines promise for all places."""

from alljourneys.checks import is_integer, require_spot
from alljourneys.errors import BadNumber
from alljourneys.nets import net_of
from alljourneys.rates import Descent, lowest, names_of, pace_of, times_line


class Falling:
    """A journey from the start and a ring from its end with a rest below 0."""

    def __init__(self, journey, ring):
        self.journey = journey
        self.ring = ring


class Plane:
    """For each spot the least rest of a journey from the start, and such a journey."""

    def __init__(self, numbers, journeys):
        self.numbers = numbers
        self.journeys = journeys


class Fastest:
    """The greatest ratio over all rounds, a ring that has it, and worths that prove it."""

    def __init__(self, ratio, ring, worths):
        self.ratio = ratio
        self.ring = ring
        self.worths = worths


def _best_edge(paper, cell):
    """The least index of an edge with the greatest ratio at a cell, and the numbers of this ratio."""
    best = (0, times_line(paper.edges[0].line, cell), paper.edges[0].bottom)
    for index, edge in enumerate(paper.edges):
        top = times_line(edge.line, cell)
        if top * best[2] > best[1] * edge.bottom:
            best = (index, top, edge.bottom)
    return best


def measure(paper, cell):
    """The measure of a cell, by an Around."""
    _, top, bottom = _best_edge(paper, cell)
    return lowest(top, bottom)


def edge_at(paper, cell):
    """The least index of an edge that gives the measure of a cell."""
    return _best_edge(paper, cell)[0]


def plane(land, start, line, bottom):
    """What can be promised with a line from a start: a Plane, or a Falling if there is no bound."""
    require_spot(land, start)
    if not is_integer(bottom) or bottom < 1:
        raise BadNumber("bottom", bottom)
    net = net_of(land)
    costs = [bottom * link.price - times_line(line, link.shift) for link in net.links]
    source = net.spot_numbers[start]
    told = Descent(net, costs, [source])
    if told.ring is None:
        journeys = [None if height is None else names_of(told.way_to(spot)) for spot, height in enumerate(told.heights)]
        return Plane(tuple(told.heights), tuple(journeys))
    # Any way to the ring will do, so all links cost the same here.
    ways = Descent(net, [1 for _ in net.links], [source])
    return Falling(names_of(ways.way_to(told.ring[0].start)), names_of(told.ring))


def fastest(land, line):
    """The round that gets on best along a line; None if there is no round."""
    pace = pace_of(net_of(land), line)
    return None if pace is None else Fastest(pace.ratio, names_of(pace.ring), pace.worths)

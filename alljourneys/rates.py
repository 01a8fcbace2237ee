"""Costs of roads with any signs: the least ways, rounds that cost less than 0, and the greatest rates of rounds."""

from math import gcd

from alljourneys.checks import is_cell


def lowest(top, bottom):
    """The ratio of two integers, the second one above 0."""
    common = gcd(top, bottom)
    return (top // common, bottom // common)


def is_ratio(value):
    """Whether any value is a ratio."""
    return is_cell(value) and value[1] > 0 and gcd(value[0], value[1]) == 1


def is_less(one, other):
    """Whether a ratio, or None, which stands for no end, is less than another one."""
    return one is not None and (other is None or one[0] * other[1] < other[0] * one[1])


def times_line(line, cell):
    """The product of a line and a cell."""
    return line[0] * cell[0] + line[1] * cell[1]


class Descent:
    """The least costs of ways to the spots of a net, from spots with the cost 0 on; costs has one for each link.

    If a round costs less than 0, ring has its links; otherwise ring is None, and
    heights has the least cost for each spot, None for one that is not reached.
    """

    def __init__(self, net, costs, sources):
        self.heights = [0 if spot in sources else None for spot in range(len(net.spots))]
        self._last = [None for _ in net.spots]
        self.ring = None
        for _ in net.spots:
            changed = self._relaxed(net, costs)
            if changed is None:
                return
        self.ring = self._ring_before(changed, len(net.spots))

    def _relaxed(self, net, costs):
        """Go each link once; a spot to which the way became cheaper, or None."""
        changed = None
        for link, cost in zip(net.links, costs):
            ahead, behind = self.heights[link.start], self.heights[link.end]
            if ahead is not None and (behind is None or ahead + cost < behind):
                self.heights[link.end] = ahead + cost
                self._last[link.end] = link
                changed = link.end
        return changed

    def _ring_before(self, spot, many):
        """The links of a round to which the last links lead back from a spot."""
        for _ in range(many):
            spot = self._last[spot].start
        links = [self._last[spot]]
        while links[-1].start != spot:
            links.append(self._last[links[-1].start])
        return links[::-1]

    def way_to(self, spot):
        """The links of a least way to a spot, if there is no ring."""
        links = []
        while self._last[spot] is not None:
            links.append(self._last[spot])
            spot = links[-1].start
        return links[::-1]


def descent_from_all(net, costs):
    """The Descent from all spots at once."""
    return Descent(net, costs, list(range(len(net.spots))))


def names_of(links):
    """The names of the roads of links, as a tuple."""
    return tuple([link.name for link in links])


class Pace:
    """The greatest ratio of line*shift to the price over all rounds, a ring that has it, and worths that prove it."""

    def __init__(self, ratio, ring, worths):
        self.ratio = ratio
        self.ring = ring
        self.worths = worths


def pace_of(net, line):
    """The Pace of a line; None if there is no round."""
    ring = descent_from_all(net, [-1 for _ in net.links]).ring
    if ring is None:
        return None
    while True:
        gain = sum([times_line(line, link.shift) for link in ring])
        top, bottom = lowest(gain, sum([link.price for link in ring]))
        told = descent_from_all(net, [top * link.price - bottom * times_line(line, link.shift) for link in net.links])
        if told.ring is None:
            return Pace((top, bottom), ring, tuple(told.heights))
        ring = told.ring

"""Hunts: cheapest journeys to all places that are not alike, in ascending order.

A course tells which places are alike: those between which steps lead that are not
counted. What a link costs on it is its price less what a line promises for its
shift; no round costs less than 0, so what is found first is the best of all alike.
"""

from heapq import heappop, heappush

from alljourneys.rates import times_line
from alljourneys.sheets import cross
from alljourneys.trails import Trail


class Course:
    """The rays whose shifts are not counted, and the costs: bottom times the price less line*shift."""

    def __init__(self, rays, line, bottom, band):
        self.masks = [ray.mask for ray in rays]
        self.steps = tuple([ray.shift for ray in rays])
        self.step_prices = tuple([ray.price for ray in rays])
        self.line = line
        self.bottom = bottom
        self.band = band
        self._p, self._q = self.steps[0] if rays else (0, 0)
        # A single step is one of two that are square to each other; the other one is never taken.
        self._s, self._t = self.steps[1] if len(rays) == 2 else (-self._q, self._p)
        self._size = self._p * self._t - self._q * self._s

    def folded(self, x, y):
        """The first one of the cells that are alike; None if it is outside the band beside the only step."""
        if self._size == 0:
            return x, y
        times, side = (self._t * x - self._s * y) // self._size, self._p * y - self._q * x
        if self.band is not None:
            if not self.band[0] <= side <= self.band[1]:
                return None
            return x - times * self._p, y - times * self._q
        more = side // self._size
        return x - times * self._p - more * self._s, y - times * self._q - more * self._t

    def cost(self, link):
        """What a link costs."""
        return self.bottom * link.price - self.line[0] * link.shift[0] - self.line[1] * link.shift[1]

    def flags(self, spot):
        """Which rays can be put in at this spot, as bits."""
        return sum([1 << at for at, mask in enumerate(self.masks) if mask & (1 << spot) != 0])


PLAIN = (0, 0)


def plain_course():
    """The Course on which all places count, for their prices."""
    return Course((), PLAIN, 1, None)


def line_of(one, two):
    """The line that gives both rays a size of the shift times their price, and this size."""
    (p, q), (s, t) = one.shift, two.shift
    return (one.price * t - two.price * q, two.price * p - one.price * s), p * t - q * s


def pair_course(pair):
    """The Course for the sheets that have two rays, with a side of a front between them, as steps."""
    line, size = line_of(pair[0], pair[1])
    return Course(pair, line, size, None)


def ray_course(fronts, at, ray, band):
    """The Course for the sheets with a ray of a direction of the front; the line is strictly beyond all others."""
    p, q = ray.shift
    many = p * p + q * q
    ahead, behind = fronts.sides_of(at)
    if ahead is not None and behind is not None:
        (a, b), size = line_of(ahead[0], ahead[1])
        (c, d), other = line_of(behind[0], behind[1])
        return Course((ray,), (a * other + c * size, b * other + d * size), 2 * size * other, band)
    if ahead is None and behind is None:
        return Course((ray,), (ray.price * p, ray.price * q), many, band)
    (a, b), size = line_of(ahead[0], ahead[1]) if behind is None else line_of(behind[0], behind[1])
    side = -ray.price * size if behind is None else ray.price * size
    return Course((ray,), (a * many + q * side, b * many - p * side), size * many, band)


def band_beside(ray, net, cells):
    """From where to where, beside the ray, one is to look if these cells are the bases of sheets with it as a step."""
    offsets = [cross(ray.shift, cell) for cell in cells]
    margin = 2 * max([abs(cross(ray.shift, link.shift)) for link in net.links])
    return (min(offsets, default=0) - margin, max(offsets, default=0) + margin)


class Hunt:
    """The search along a course, from the spot with the number start, on links between the spots of a mask.

    A stop is a tuple (spot, x, y, flags). The dict prices has the stops that were
    found, in the order in which they were.
    """

    def __init__(self, net, start, mask, course, limit):
        self.start = start
        self.course = course
        self.prices = {}
        self._costs = {}
        self._back = {}
        links = [[link for link in links if mask & (1 << link.end) != 0] for links in net.links_from]
        heights = self._heights(links) if course.steps else [0 for _ in net.spots]
        ways = [[(link, link.end, *link.shift, course.cost(link) + heights[spot] - heights[link.end], link.price)
                 for link in row] for spot, row in enumerate(links)]
        self._search(ways, heights, [course.flags(spot) for spot in range(len(net.spots))], limit)

    def _search(self, ways, heights, gates, limit):
        """Find the stops; gates are the flags of the spots."""
        first = (self.start, 0, 0, gates[self.start])
        self._back[first] = None
        best = {first: (0, 0)}
        queue = [(0, 0, first)]
        while queue and len(self.prices) < limit:
            cost, price, stop = heappop(queue)
            if stop in self.prices:
                continue
            spot, x, y, flags = stop
            self.prices[stop] = price
            self._costs[stop] = cost + heights[spot]
            for link, end, p, q, more, toll in ways[spot]:
                cell = self.course.folded(x + p, y + q)
                if cell is None:
                    continue
                there = (end, *cell, flags | gates[end])
                far = (cost + more, price + toll)
                if there not in best or far < best[there]:
                    best[there] = far
                    self._back[there] = (stop, link)
                    heappush(queue, (*far, there))

    def _heights(self, links):
        """For each spot the least cost of a way there, cells left aside: with these, no link costs less than 0."""
        heights = [0 for _ in links]
        seen = {self.start: 0}
        is_changed = True
        while is_changed:
            is_changed = False
            for spot in list(seen):
                for link in links[spot]:
                    cost = seen[spot] + self.course.cost(link)
                    if link.end not in seen or cost < seen[link.end]:
                        seen[link.end] = cost
                        is_changed = True
        for spot, cost in seen.items():
            heights[spot] = cost
        return heights

    def far_end(self, stop, times):
        """The cell and the price behind the trail to a stop, with each ray of the course put in so many times more."""
        x, y = stop[1], stop[2]
        for p, q in self.course.steps:
            x, y = x + times * p, y + times * q
        return (x, y), (self._costs[stop] + times_line(self.course.line, (x, y))) // self.course.bottom

    def trail_to(self, stop):
        """The Trail that was found to a stop."""
        links = []
        while self._back[stop] is not None:
            stop, link = self._back[stop]
            links.append(link)
        return Trail(self.start, links[::-1])

    def whole_stops(self):
        """The list of the stops with all flags."""
        full = (1 << len(self.course.masks)) - 1
        return [stop for stop in self.prices if stop[3] == full]

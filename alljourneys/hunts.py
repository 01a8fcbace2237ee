"""Hunts: cheapest journeys to all places that are not alike, in ascending order.

A course tells which places are alike: those between which steps lead that are not
counted. What a link costs on it is its price less what a line promises for its
shift; no round costs less than 0, so what is found first is the best of all alike.
"""

from heapq import heappop, heappush

from alljourneys.rates import times_line
from alljourneys.sheets import cross
from alljourneys.trails import Trail


class Course:
    """The rays whose shifts are not counted, and the costs: bottom times the price less line*shift."""

    def __init__(self, rays, line, bottom, band):
        self.masks = [ray.mask for ray in rays]
        self.steps = tuple([ray.shift for ray in rays])
        self.step_prices = tuple([ray.price for ray in rays])
        self.line = line
        self.bottom = bottom
        self.band = band

    def folded(self, x, y):
        """The first one of the cells that are alike; None if it is outside the band beside the only step."""
        if not self.steps:
            return (x, y)
        p, q = self.steps[0]
        if len(self.steps) == 1:
            if not self.band[0] <= p * y - q * x <= self.band[1]:
                return None
            times = (p * x + q * y) // (p * p + q * q)
            return (x - times * p, y - times * q)
        s, t = self.steps[1]
        size = p * t - q * s
        one, two = (t * x - s * y) // size, (p * y - q * x) // size
        return (x - one * p - two * s, y - one * q - two * t)

    def cost(self, link):
        """What a link costs."""
        return self.bottom * link.price - self.line[0] * link.shift[0] - self.line[1] * link.shift[1]

    def flags(self, spot, before):
        """Which rays can be put in at this spot, or could before, as bits."""
        for at, mask in enumerate(self.masks):
            if mask & (1 << spot) != 0:
                before |= 1 << at
        return before


PLAIN = (0, 0)


def plain_course():
    """The Course on which all places count, for their prices."""
    return Course((), PLAIN, 1, None)


def line_of(one, two):
    """The line that gives both rays a size of the shift times their price, and this size."""
    (p, q), (s, t) = one.shift, two.shift
    return (one.price * t - two.price * q, two.price * p - one.price * s), p * t - q * s


def pair_course(pair):
    """The Course for the sheets that have two rays, with a side of a front between them, as steps."""
    line, size = line_of(pair[0], pair[1])
    return Course(pair, line, size, None)


def ray_course(fronts, at, ray, band):
    """The Course for the sheets with a ray of a direction of the front; the line is strictly beyond all others."""
    p, q = ray.shift
    many = p * p + q * q
    ahead, behind = fronts.sides_of(at)
    if ahead is not None and behind is not None:
        (a, b), size = line_of(ahead[0], ahead[1])
        (c, d), other = line_of(behind[0], behind[1])
        return Course((ray,), (a * other + c * size, b * other + d * size), 2 * size * other, band)
    if ahead is None and behind is None:
        return Course((ray,), (ray.price * p, ray.price * q), many, band)
    (a, b), size = line_of(ahead[0], ahead[1]) if behind is None else line_of(behind[0], behind[1])
    side = -ray.price * size if behind is None else ray.price * size
    return Course((ray,), (a * many + q * side, b * many - p * side), size * many, band)


def band_beside(ray, net, cells):
    """From where to where, beside the ray, one is to look if these cells are the bases of sheets with it as a step."""
    offsets = [cross(ray.shift, cell) for cell in cells]
    margin = 2 * max([abs(cross(ray.shift, link.shift)) for link in net.links])
    return (min(offsets, default=0) - margin, max(offsets, default=0) + margin)


class Hunt:
    """The search along a course, from the spot with the number start, on links between the spots of a mask.

    A stop is a tuple (spot, x, y, flags). The dict prices has the stops that were
    found, in the order in which they were.
    """

    def __init__(self, net, start, mask, course, limit):
        self.start = start
        self.course = course
        self.prices = {}
        self._costs = {}
        self._links = [[(link, course.cost(link)) for link in links if mask & (1 << link.end) != 0]
                       for links in net.links_from]
        heights = self._heights() if course.steps else [0 for _ in net.spots]
        first = (start, 0, 0, course.flags(start, 0))
        self._back = {first: None}
        best = {first: (0, 0)}
        queue = [(0, 0, first)]
        while queue and len(self.prices) < limit:
            cost, price, stop = heappop(queue)
            if stop in self.prices:
                continue
            self.prices[stop] = price
            self._costs[stop] = cost + heights[stop[0]]
            for link, more in self._links[stop[0]]:
                there = self._behind(stop, link)
                if there is None:
                    continue
                far = (cost + more + heights[stop[0]] - heights[link.end], price + link.price)
                if there not in best or far < best[there]:
                    best[there] = far
                    self._back[there] = (stop, link)
                    heappush(queue, (far[0], far[1], there))

    def _heights(self):
        """For each spot the least cost of a way there, cells left aside: with these, no link costs less than 0."""
        heights = [0 for _ in self._links]
        seen = {self.start: 0}
        is_changed = True
        while is_changed:
            is_changed = False
            for spot in list(seen):
                for link, cost in self._links[spot]:
                    if link.end not in seen or seen[spot] + cost < seen[link.end]:
                        seen[link.end] = seen[spot] + cost
                        is_changed = True
        for spot, cost in seen.items():
            heights[spot] = cost
        return heights

    def _behind(self, stop, link):
        """The stop behind a link; None if it is out of reach."""
        cell = self.course.folded(stop[1] + link.shift[0], stop[2] + link.shift[1])
        if cell is None:
            return None
        return (link.end, cell[0], cell[1], self.course.flags(link.end, stop[3]))

    def far_end(self, stop, times):
        """The cell and the price behind the trail to a stop, with each ray of the course put in so many times more."""
        x, y = stop[1], stop[2]
        for p, q in self.course.steps:
            x, y = x + times * p, y + times * q
        return (x, y), (self._costs[stop] + times_line(self.course.line, (x, y))) // self.course.bottom

    def trail_to(self, stop):
        """The Trail that was found to a stop."""
        links = []
        while self._back[stop] is not None:
            stop, link = self._back[stop]
            links.append(link)
        return Trail(self.start, links[::-1])

    def whole_stops(self):
        """The list of the stops with all flags."""
        full = (1 << len(self.course.masks)) - 1
        return [stop for stop in self.prices if stop[3] == full]

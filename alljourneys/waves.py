"""Places in ascending order of their least prices from a start."""

from heapq import heappop, heappush

from alljourneys.checks import require_place
from alljourneys.nets import net_of
from alljourneys.rates import pace_of, times_line

# Lines that tell how far one can get at most to each side.
SIDES = ((1, 0), (0, 1), (-1, 0), (0, -1), (1, 1), (1, -1), (-1, 1), (-1, -1))


def spread(land, start):
    """Each reached place once, as a tuple (price, spot, x, y), in ascending order of price, then of the places."""
    require_place(land, start, "start")
    net = net_of(land)
    first = (net.spot_numbers[start[0]], start[1], start[2])
    best = {first: 0}
    queue = [(0, *first)]
    while queue:
        price, number, x, y = heappop(queue)
        if best[(number, x, y)] < price:
            continue
        for link in net.links_from[number]:
            there = (link.end, x + link.shift[0], y + link.shift[1])
            more = price + link.price
            if there not in best or more < best[there]:
                best[there] = more
                heappush(queue, (more, *there))
        yield (price, net.spots[number], x, y)


class Outlook:
    """What the way from any place to a goal costs at least."""

    def __init__(self, net, goal):
        self._goal = goal
        self._rows = []
        for line in SIDES:
            pace = pace_of(net, line)
            if pace is not None:
                self._rows.append((line, pace.ratio, pace.worths))

    def bound(self, spot, x, y, most):
        """A bound from below for the price to the goal; more than most if the goal is not reached for sure."""
        best = 0
        way = (self._goal[1] - x, self._goal[2] - y)
        for line, (top, bottom), worths in self._rows:
            need = bottom * times_line(line, way) + worths[self._goal[0]] - worths[spot]
            if need > 0:
                best = max(best, -(-need // top) if top > 0 else most + 1)
        return best


def near_price(land, start, goal, most):
    """The least price from start to goal if it is at most this number; None otherwise."""
    require_place(land, start, "start")
    require_place(land, goal, "goal")
    net = net_of(land)
    first = (net.spot_numbers[start[0]], start[1], start[2])
    last = (net.spot_numbers[goal[0]], goal[1], goal[2])
    outlook = Outlook(net, last)
    best = {first: 0}
    queue = [(outlook.bound(*first, most), 0, first)]
    while queue:
        whole, price, place = heappop(queue)
        if whole > most:
            return None
        if place == last:
            return price
        if best[place] < price:
            continue
        for link in net.links_from[place[0]]:
            there = (link.end, place[1] + link.shift[0], place[2] + link.shift[1])
            more = price + link.price
            if there not in best or more < best[there]:
                best[there] = more
                heappush(queue, (more + outlook.bound(*there, most), more, there))
    return None

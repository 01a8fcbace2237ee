"""Loops: the rounds that pass each of their spots just once, and which of them get on best to each side."""

from math import gcd

from alljourneys.sheets import cross


class Loop:
    """A round: its links, the shift and the price of all of them, and its spots as bits of a number."""

    def __init__(self, links, shift, price, mask):
        self.links = links
        self.shift = shift
        self.price = price
        self.mask = mask

    def begun_links(self, spot):
        """The links of the round from the spot with this number on."""
        at = [link.start for link in self.links].index(spot)
        return self.links[at:] + self.links[:at]

    def begun_at(self, spot):
        """The names of the roads of the round from the spot with this number on."""
        return tuple([link.name for link in self.begun_links(spot)])


def _offer(table, key, price, links):
    """Enter a price and its links in a table, unless it has as low a price for the key already."""
    if key not in table or price < table[key][0]:
        table[key] = (price, links)


def _longer(net, root, paths, closed):
    """The cheapest paths with one more link than these; those that come back to the root are offered to closed."""
    longer = {}
    for (mask, spot, x, y), (price, links) in paths.items():
        for link in net.links_from[spot]:
            there = (x + link.shift[0], y + link.shift[1])
            if link.end == root:
                _offer(closed, (mask, *there), price + link.price, (*links, link))
            elif link.end > root and mask & (1 << link.end) == 0:
                _offer(longer, (mask | (1 << link.end), link.end, *there), price + link.price, (*links, link))
    return longer


def loops_of(net):
    """The list of the cheapest Loops, one for each set of spots and each shift that a loop with just these has."""
    closed = {}
    for root in range(len(net.spots)):
        paths = {(1 << root, root, 0, 0): (0, ())}
        while paths:
            paths = _longer(net, root, paths, closed)
    return [Loop(links, (x, y), price, mask) for (mask, x, y), (price, links) in closed.items()]


def _along(one, other):
    """How far the shift of the other loop leads in the direction of the first one, times its length."""
    return one.shift[0] * other.shift[0] + one.shift[1] * other.shift[1]


def _side(one, two, three):
    """Above 0 if the third rate lies to the left of the way from the first to the second one, 0 on its line."""
    return (one.price * cross(two.shift, three.shift) - two.price * cross(one.shift, three.shift)
            + three.price * cross(one.shift, two.shift))


def _fastest_ways(loops):
    """For each direction of a shift the loop with the greatest rate, of several the shortest one."""
    best = {}
    for loop in loops:
        x, y = loop.shift
        many = gcd(x, y)
        if many == 0:
            continue
        way = (x // many, y // many)
        if way in best:
            known, other = best[way]
            gain = many * other.price - known * loop.price
            if gain < 0 or (gain == 0 and known <= many):
                continue
        best[way] = (many, loop)
    return [loop for _, loop in best.values()]


def _neighbour(loops, here, side):
    """The loop that follows on the outer hull of the rates, against the clock for the side 1; None if there is none."""
    best = None
    for loop in loops:
        if side * cross(here.shift, loop.shift) <= 0:
            continue
        if best is None:
            best = loop
            continue
        turn = side * _side(here, best, loop)
        if turn < 0 or (turn == 0 and side * cross(loop.shift, best.shift) > 0):
            best = loop
    return best


class Fronts:
    """The loops on the outer hull of all rates, against the clock; and the pairs of neighbours, with what lies between.

    is_closed tells whether the last one and the first one are neighbours, too.
    """

    def __init__(self, loops):
        ways = _fastest_ways(loops)
        self.rays = []
        self.is_closed = False
        if not ways:
            self.pairs = []
            return
        # What is farthest in the direction of any loop is on the outer hull.
        best = ways[0]
        for loop in ways:
            if _along(ways[0], loop) * best.price > _along(ways[0], best) * loop.price:
                best = loop
        self._walk(ways, best)
        ends = list(zip(self.rays, self.rays[1:]))
        if self.is_closed:
            ends.append((self.rays[-1], self.rays[0]))
        self.pairs = [(one, other) for one, other in ends if cross(one.shift, other.shift) > 0]

    def _walk(self, ways, first):
        """Gather the rays from the first one on, to both sides."""
        self.rays = [first]
        here = _neighbour(ways, first, 1)
        while here is not None and here.shift != first.shift:
            self.rays.append(here)
            here = _neighbour(ways, here, 1)
        if here is not None:
            self.is_closed = True
            return
        here = _neighbour(ways, first, -1)
        while here is not None:
            self.rays.insert(0, here)
            here = _neighbour(ways, here, -1)
        if len(self.rays) == 1:
            # All on one line: the other side of it has no neighbour, but may be a way, too.
            self.rays.extend([loop for loop in ways if loop.shift != first.shift])

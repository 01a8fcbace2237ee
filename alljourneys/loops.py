"""Loops: the rounds that pass each of their spots just once, and which of them get on best to each side."""

from math import gcd

from alljourneys.sheets import cross


class Loop:
    """A round: its links, the shift and the price of all of them, and its spots as bits of a number."""

    def __init__(self, links, shift, price, mask):
        self.links = links
        self.shift = shift
        self.price = price
        self.mask = mask

    def options(self):
        """The loops that it stands for."""
        return [self]

    def begun_links(self, spot):
        """The links of the round from the spot with this number on."""
        at = [link.start for link in self.links].index(spot)
        return self.links[at:] + self.links[:at]

    def begun_at(self, spot):
        """The names of the roads of the round from the spot with this number on."""
        return tuple([link.name for link in self.begun_links(spot)])


def _offer(table, key, price, links):
    """Enter a price and its links in a table, unless it has as low a price for the key already."""
    if key not in table or price < table[key][0]:
        table[key] = (price, links)


def _longer(net, root, paths, closed):
    """The cheapest paths with one more link than these; those that come back to the root are offered to closed."""
    longer = {}
    for (mask, spot, x, y), (price, links) in paths.items():
        for link in net.links_from[spot]:
            there = (x + link.shift[0], y + link.shift[1])
            if link.end == root:
                _offer(closed, (mask, *there), price + link.price, (*links, link))
            elif link.end > root and mask & (1 << link.end) == 0:
                _offer(longer, (mask | (1 << link.end), link.end, *there), price + link.price, (*links, link))
    return longer


def loops_of(net):
    """The list of the cheapest Loops, one for each set of spots and each shift that a loop with just these has."""
    closed = {}
    for root in range(len(net.spots)):
        paths = {(1 << root, root, 0, 0): (0, ())}
        while paths:
            paths = _longer(net, root, paths, closed)
    return [Loop(links, (x, y), price, mask) for (mask, x, y), (price, links) in closed.items()]


def _along(one, other):
    """How far the shift of the other ray leads in the direction of the first one, times its length."""
    return one.shift[0] * other.shift[0] + one.shift[1] * other.shift[1]


def _side(one, two, three):
    """Above 0 if the third rate lies to the left of the way from the first to the second one, 0 on its line."""
    return (one.price * cross(two.shift, three.shift) - two.price * cross(one.shift, three.shift)
            + three.price * cross(one.shift, two.shift))


class Ray:
    """All loops of one shift and price; its mask has the spots of all of them."""

    def __init__(self, loop):
        self.shift = loop.shift
        self.price = loop.price
        self.mask = loop.mask
        self.loops = [loop]

    def options(self):
        """The loops that it stands for."""
        return list(self.loops)

    def unite(self, loop):
        """Add a loop with the same shift and price."""
        self.mask = self.mask | loop.mask
        self.loops.append(loop)


def _enter_loop(table, loop):
    """Enter a loop into a table that has, for each direction, the rays of the greatest rate by their lengths."""
    many = gcd(loop.shift[0], loop.shift[1])
    if many == 0:
        return
    way = (loop.shift[0] // many, loop.shift[1] // many)
    rays = table.setdefault(way, {})
    for known, ray in rays.items():
        gain = many * ray.price - known * loop.price
        if gain < 0:
            return
        if gain > 0:
            table[way] = {many: Ray(loop)}
            return
    if many in rays:
        rays[many].unite(loop)
    else:
        rays[many] = Ray(loop)


def _fastest_ways(loops):
    """For each direction of a shift the list of the rays with the greatest rate, the shortest one first."""
    table = {}
    for loop in loops:
        _enter_loop(table, loop)
    return [[rays[many] for many in sorted(list(rays))] for rays in table.values()]


def _neighbour(rays, here, side):
    """The ray that follows on the outer hull of the rates, against the clock for the side 1; None if there is none."""
    best = None
    for ray in rays:
        if side * cross(here.shift, ray.shift) <= 0:
            continue
        if best is None:
            best = ray
            continue
        turn = side * _side(here, best, ray)
        if turn < 0 or (turn == 0 and side * cross(ray.shift, best.shift) > 0):
            best = ray
    return best


class Fronts:
    """The rays on the outer hull of all rates.

    There is a list of rays for each direction, against the clock; all of a list have
    the same rate, and the first one is the shortest. is_closed tells whether the last
    direction and the first one are neighbours, too.
    """

    def __init__(self, loops):
        self.ways = []
        self.is_closed = False
        rows = _fastest_ways(loops)
        if rows:
            self._walk([rays[0] for rays in rows])
        first = {rays[0].shift: rays for rays in rows}
        self.ways = [first[ray.shift] for ray in self.ways]
        self.rays = [rays[0] for rays in self.ways]
        self.pairs = [(self.rays[at], self.rays[other]) for at, other in self._neighbours()]

    def _neighbours(self):
        """The list of pairs of the indexes of directions between which there is a side of the hull."""
        count = len(self.ways)
        pairs = [(at, (at + 1) % count) for at in range(count if self.is_closed else count - 1)]
        return [(at, other) for at, other in pairs if cross(self.ways[at][0].shift, self.ways[other][0].shift) > 0]

    def _far_neighbours(self):
        """As _neighbours, and with those between which others lie on the same side of the hull."""
        count = len(self.ways)
        pairs = []
        for at, other in self._neighbours():
            pairs.append((at, other))
            one, two = self.rays[at], self.rays[other]
            other = (other + 1) % count
            while self._is_on(one, two, self.rays[other]):
                pairs.append((at, other))
                other = (other + 1) % count
        return pairs

    def _is_on(self, one, two, three):
        """Whether the rate of the third ray lies behind the other two on the side of the hull that they begin."""
        return cross(two.shift, three.shift) > 0 and cross(one.shift, three.shift) > 0 and _side(one, two, three) == 0

    def all_pairs(self):
        """All pairs of rays with nothing but a side of the hull between them, the longer ones, too."""
        return [(one, two) for at, other in self._far_neighbours() for one in self.ways[at] for two in self.ways[other]]

    def sides_of(self, at):
        """The sides of the hull, as pairs of rays, that the direction with this index has ahead and behind, or None."""
        ahead = [(one, two) for one, two in self.pairs if two.shift == self.rays[at].shift]
        behind = [(one, two) for one, two in self.pairs if one.shift == self.rays[at].shift]
        return (ahead[0] if ahead else None), (behind[0] if behind else None)

    def _walk(self, rays):
        """Gather the rays on the hull from one of them on, to both sides."""
        # What is farthest in the direction of any ray is on the outer hull.
        first = rays[0]
        for ray in rays:
            if _along(rays[0], ray) * first.price > _along(rays[0], first) * ray.price:
                first = ray
        self.ways = [first]
        here = _neighbour(rays, first, 1)
        while here is not None and here.shift != first.shift:
            self.ways.append(here)
            here = _neighbour(rays, here, 1)
        if here is not None:
            self.is_closed = True
            return
        here = _neighbour(rays, first, -1)
        while here is not None:
            self.ways.insert(0, here)
            here = _neighbour(rays, here, -1)
        if len(self.ways) == 1:
            # All on one line: the other side of it has no neighbour, but may be a way, too.
            self.ways.extend([ray for ray in rays if ray.shift != first.shift])

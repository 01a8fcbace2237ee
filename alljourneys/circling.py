"""The search for a ring, or for numbers that show that there is none."""

from math import gcd

from alljourneys.rates import Descent, descent_from_all, names_of, times_line
from alljourneys.sheets import cross


class Part:
    """Links of a net, looked at by themselves."""

    def __init__(self, spots, links):
        self.spots = spots
        self.links = links


class Ties:
    """For each spot, as bits of a number, the spots to which links lead from there."""

    def __init__(self, part):
        self._masks = [0 for _ in part.spots]
        for link in part.links:
            self._masks[link.start] = self._masks[link.start] | (1 << link.end)
        for middle in range(len(part.spots)):
            for start in range(len(part.spots)):
                if self.leads(start, middle):
                    self._masks[start] = self._masks[start] | self._masks[middle]

    def leads(self, start, end):
        """Whether some way of one link or more leads from spot to spot."""
        return (self._masks[start] >> end) & 1 == 1

    def rank(self, spot):
        """A number that is the same for all spots of a round, and rises along each link that is on none."""
        return len([True for start in range(len(self._masks)) if start == spot or self.leads(start, spot)])


def ranked(part):
    """A tuple of the list of the ranks of all spots, and of the list of the links that are on some round."""
    ties = Ties(part)
    return ([ties.rank(spot) for spot in range(len(part.spots))],
            [link for link in part.links if ties.leads(link.end, link.start)])


def parts_of_rounds(part):
    """The list of the Parts that hang together, if each link is on some round."""
    ties = Ties(part)
    parts = []
    for spot in range(len(part.spots)):
        links = [link for link in part.links if ties.leads(spot, link.start)]
        if ties.leads(spot, spot) and spot == min([link.start for link in links]):
            parts.append(Part(part.spots, links))
    return parts


def shift_along(links):
    """The sum of the shifts of links."""
    return (sum([link.shift[0] for link in links]), sum([link.shift[1] for link in links]))


def _way(part, start, end):
    """The list of the links of a shortest way from spot to spot of a part that hangs together."""
    return Descent(part, [1 for _ in part.links], [start]).way_to(end)


def _combined(shift, shifts):
    """How often a shift, at least once, and each of some shifts are to be taken so that they come to (0, 0)."""
    counts = [0 for _ in shifts]
    for one, first in enumerate(shifts):
        for other, second in enumerate(shifts):
            size, here, there = cross(first, second), cross(second, shift), cross(shift, first)
            if size > 0 and here >= 0 and there >= 0:
                common = gcd(size, here, there)
                counts[one], counts[other] = here // common, there // common
                return size // common, counts
        if cross(first, shift) == 0 and times_line(first, shift) < 0:
            long, short = max(abs(first[0]), abs(first[1])), max(abs(shift[0]), abs(shift[1]))
            common = gcd(long, short)
            counts[one] = short // common
            return long // common, counts
    return None


def _closed(part, rings):
    """The spot and the legs of a ring that is made of rounds; some of their shifts lead back, wherever a tour leads."""
    spots = [ring[0].start for ring in rings]
    ways = [_way(part, start, end) for start, end in zip(spots, spots[1:] + spots[:1])]
    tour = [link for way in ways for link in way]
    if not tour:
        ways, tour = [rings[0]] + ways[1:], rings[0]
    many, counts = 1, [0 for _ in rings]
    if shift_along(tour) != (0, 0):
        many, counts = _combined(shift_along(tour), [shift_along(ring) for ring in rings])
    legs = [(names_of(tour), many - 1)]
    for ring, count, way in zip(rings, counts, ways):
        legs.extend([(names_of(ring), count), (names_of(way), 1)])
    return spots[0], tuple([leg for leg in legs if leg[0] and leg[1] > 0])


def _left_line(shift):
    """The line by which only what is to the left of a shift leads back."""
    return (shift[1], -shift[0])


def _right_line(shift):
    """The line by which only what is to the right of a shift leads back."""
    return (-shift[1], shift[0])


class Turning:
    """The rounds of a part that hangs together, as far as they are known, and the outermost ones to both sides.

    If there is a ring, ring is a tuple of its spot and its legs. Otherwise it is None,
    and line is a line by which no round leads back, and as few as can be lead nowhere.
    """

    def __init__(self, part):
        self.part = part
        self.ring = None
        self.line = None
        self._rings = [descent_from_all(part, [-1 for _ in part.links]).ring]
        self._right = shift_along(self._rings[0])
        self._left = self._right
        if self._right == (0, 0):
            self.ring = _closed(part, self._rings)
        else:
            self._turn_left()

    def _round_back(self, line):
        """The shift of a round that leads back by a line, which is kept; None if there is none."""
        found = descent_from_all(self.part, [times_line(line, link.shift) for link in self.part.links]).ring
        if found is None:
            return None
        self._rings.append(found)
        return shift_along(found)

    def _turn_left(self):
        """Look for rounds farther and farther to the left."""
        shift = self._round_back(_left_line(self._left))
        while shift is not None:
            if cross(self._right, shift) < 0:
                self.ring = _closed(self.part, self._rings)
                return
            self._left = shift
            shift = self._round_back(_left_line(self._left))
        self.line = _left_line(self._left)
        # If the outermost ones are opposite, all others are on one side of them.
        if cross(self._right, self._left) != 0 or times_line(self._right, self._left) > 0:
            self._turn_right()

    def _turn_right(self):
        """Look for rounds farther and farther to the right, where there is nothing to the left of the left one."""
        shift = self._round_back(_right_line(self._right))
        while shift is not None:
            if cross(self._left, shift) == 0:
                return
            self._right = shift
            shift = self._round_back(_right_line(self._right))
        if cross(self._right, self._left) != 0:
            ahead, behind = _left_line(self._left), _right_line(self._right)
            self.line = (ahead[0] + behind[0], ahead[1] + behind[1])
            return
        # All rounds are on one line.
        self.line = self._left
        if self._round_back(self.line) is not None:
            self.ring = _closed(self.part, self._rings)


def numbers_by(part, line):
    """The dict of the numbers of the spots of a part at a level, and the list of the links that are left behind it."""
    costs = [times_line(line, link.shift) for link in part.links]
    heights = descent_from_all(part, costs).heights
    tight = [link for link, cost in zip(part.links, costs) if cost + heights[link.start] == heights[link.end]]
    ranks, left = ranked(Part(part.spots, tight))
    # Times more than all ranks, so that these only matter where nothing else does.
    size = len(part.spots) + 1
    return {link.start: (size * line[0], size * line[1], ranks[link.start] - size * heights[link.start])
            for link in part.links}, left

"""Least prices between two places, and whether a road is needed, for all letters."""

from heapq import heappop, heappush

from alljourneys.atlases import Atlas
from alljourneys.building import without
from alljourneys.nets import Net
from alljourneys.rates import lowest
from alljourneys.stretches import require_goal
from alljourneys.waves import Outlook


def _rows_at(told, goal):
    """The dict of the rows (c, k) of all fans of what stretches told that have the goal."""
    rows = {}
    for stretch in told:
        for fan in stretch.fans:
            if fan.spot == goal[0]:
                price = fan.sheet.price_at((goal[1], goal[2]))
                if price is not None:
                    rows[(price, fan.marks.price_at((goal[1], goal[2])))] = True
    return list(rows)


def _lowest_rows(rows):
    """The rows (low, c, k) of the least of c + k * p for all p from 1 on."""
    if not rows:
        return ()
    best = min(rows, key=lambda row: (row[0] + row[1], row[1]))
    found = [((1, 1), *best)]
    while True:
        low = None
        following = None
        for c, k in rows:
            # With fewer letters it is less from some p on; of those that are so from the same p on, the least goes on.
            if k < best[1]:
                begin = lowest(c - best[0], best[1] - k)
                gain = 0 if low is None else begin[0] * low[1] - low[0] * begin[1]
                if low is None or gain < 0 or (gain == 0 and k < following[1]):
                    low, following = begin, (c, k)
        if following is None:
            return tuple(found)
        best = following
        found.append((low, *best))


def price_line(told, goal):
    """The least prices to goal for all letters, as a tuple of rows (low, c, k); () if goal is not reached."""
    require_goal(goal)
    return _lowest_rows(_rows_at(told, goal))


class Span:
    """All letters from low to high; None as high stands for no end."""

    def __init__(self):
        self.low = (1, 1)
        self.high = None
        self.has_low = True
        self.has_high = False

    def raise_low(self, low, has_low):
        """Leave out what is below low, and low itself unless it is to belong to the span."""
        gain = low[0] * self.low[1] - self.low[0] * low[1]
        if gain > 0:
            self.low, self.has_low = low, has_low
        elif gain == 0:
            self.has_low = self.has_low and has_low

    def lower_high(self, high, has_high):
        """Leave out what is above high, and high itself unless it is to belong to the span."""
        gain = -1 if self.high is None else high[0] * self.high[1] - self.high[0] * high[1]
        if gain < 0:
            self.high, self.has_high = high, has_high
        elif gain == 0:
            self.has_high = self.has_high and has_high

    def told(self):
        """The span as a tuple; None if nothing is left."""
        if self.high is not None:
            gain = self.high[0] * self.low[1] - self.low[0] * self.high[1]
            if gain < 0 or (gain == 0 and not (self.has_low and self.has_high)):
                return None
        return (self.low, self.high, self.has_low, self.has_high)


def _keep_less(span, mine, other, is_equal_right):
    """Keep in the span where the row mine is less than another one, or as much if that is right; False if nowhere."""
    number, change = other[0] - mine[0], other[1] - mine[1]
    if change == 0:
        return number > 0 or (number == 0 and is_equal_right)
    if change > 0:
        span.raise_low(lowest(-number, change), is_equal_right)
    else:
        span.lower_high(lowest(number, -change), is_equal_right)
    return True


def _has_ends(road, other):
    """Whether two roads have the same ends."""
    return (road.start, road.end, road.shift) == (other.start, other.end, other.shift)


def _cheap_rows(letter, land, road):
    """The rows of the journeys on a map between the ends of a road that cost no more than it where the letter is 1."""
    net = Net(land, [sum(letter.row_along([other])) for other in land.roads])
    marks = {other.name: letter.row_along([other])[1] for other in land.roads}
    last = (net.spot_numbers[road.end], road.shift[0], road.shift[1])
    outlook = Outlook(net, last)
    first = (0, net.spot_numbers[road.start], 0, 0)
    least = {first: 0}
    queue = [(0, *first)]
    while queue:
        price, many, number, x, y = heappop(queue)
        if least[(many, number, x, y)] < price:
            continue
        for link in net.links_from[number]:
            place = (link.end, x + link.shift[0], y + link.shift[1])
            there = (many + marks[link.name], *place)
            more = price + link.price
            is_near = more + outlook.bound(*place, road.price) <= road.price
            if is_near and (there not in least or more < least[there]):
                least[there] = more
                heappush(queue, (more, *there))
    return [(price - there[0], there[0]) for there, price in least.items() if there[1:] == last]


def _rival_rows(letter, road, alike):
    """The rows of all other journeys between the ends of a road that may cost no more, but for these roads."""
    names = [road.name] + [other.name for other in alike]
    if letter.row_along([road]) == (road.price, 0):
        return _cheap_rows(letter, without(letter.land, names), road)
    # What has a letter road and anything beside it costs more than the letter.
    plain = Atlas(without(letter.land, names + list(letter.letters)))
    price = plain.least_price((road.start, 0, 0), (road.end, *road.shift))
    rows = [] if price is None else [(price, 0)]
    marked = [letter.land.road_named(name) for name in letter.letters if name not in names]
    return rows + [(0, 1) for other in marked if _has_ends(other, road)]


def needed_for(letter, name):
    """The span of all letters at which a road is needed; None if it is needed at none."""
    road = letter.land.road_named(name)
    if road.start == road.end and road.shift == (0, 0):
        return None
    names = [other.name for other in letter.land.roads]
    alike = [other for other in letter.land.roads[names.index(road.name) + 1:] if _has_ends(other, road)]
    span = Span()
    mine = letter.row_along([road])
    rows = [(row, False) for row in _rival_rows(letter, road, alike)]
    rows.extend([(letter.row_along([other]), True) for other in alike])
    for row, is_equal_right in rows:
        if not _keep_less(span, mine, row, is_equal_right):
            return None
    return span.told()

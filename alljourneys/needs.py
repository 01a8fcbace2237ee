"""For which letters the roads of a letter map are needed."""

from heapq import heappop, heappush

from alljourneys.atlases import Atlas
from alljourneys.bridges import Bridges, Pull
from alljourneys.building import without
from alljourneys.journeys import place_behind
from alljourneys.rates import lowest

# Up to this price a journey beside a letter road is looked for road by road; an atlas tells those that are dearer.
NEAR = 24


class Span:
    """All letters from low to high; None as high stands for no end."""

    def __init__(self):
        self.low = (1, 1)
        self.high = None
        self.has_low = True
        self.has_high = False

    def raise_low(self, low, has_low):
        """Leave out what is below low, and low itself unless it is to belong to the span."""
        gain = low[0] * self.low[1] - self.low[0] * low[1]
        if gain > 0:
            self.low, self.has_low = low, has_low
        elif gain == 0:
            self.has_low = self.has_low and has_low

    def lower_high(self, high, has_high):
        """Leave out what is above high, and high itself unless it is to belong to the span."""
        gain = -1 if self.high is None else high[0] * self.high[1] - self.high[0] * high[1]
        if gain < 0:
            self.high, self.has_high = high, has_high
        elif gain == 0:
            self.has_high = self.has_high and has_high

    def told(self):
        """The span as a tuple; None if nothing is left."""
        if self.high is not None:
            gain = self.high[0] * self.low[1] - self.low[0] * self.high[1]
            if gain < 0 or (gain == 0 and not (self.has_low and self.has_high)):
                return None
        return (self.low, self.high, self.has_low, self.has_high)


def _keep_less(span, mine, other, is_equal_right):
    """Keep in the span where the row mine is less than another one, or as much if that is right; False if nowhere."""
    number, change = other[0] - mine[0], other[1] - mine[1]
    if change == 0:
        return number > 0 or (number == 0 and is_equal_right)
    if change > 0:
        span.raise_low(lowest(-number, change), is_equal_right)
    else:
        span.lower_high(lowest(number, -change), is_equal_right)
    return True


class Needs:
    """What can take the place of the roads of a letter map."""

    def __init__(self, letter):
        self.letter = letter
        self._pull = Pull()
        self._roads = {}
        for road in letter.land.roads:
            row = letter.row_along([road])
            self._roads.setdefault(road.start, []).append((road, sum(row), row[1]))
            self._pull.take_in(road.shift, sum(row))
        plain = [road for road in letter.land.roads if letter.row_along([road])[1] == 0]
        self._bridges = Bridges(plain)

    def _marked_bridges(self, start, goal, most):
        """The rows of the journeys of two or more roads that cost at most this where the letter is 1."""
        least = {(0, start): 0}
        waiting = [(0, 0, start)]
        while waiting:
            price, many, place = heappop(waiting)
            if least[(many, place)] < price:
                continue
            for road, cost, mark in self._roads.get(place[0], ()):
                there = place_behind(place, road)
                key, more = (many + mark, there), price + cost
                if (key in least and least[key] <= more) or (place == start and there == goal):
                    continue
                rest = self._pull.bound(goal[1] - there[1], goal[2] - there[2])
                if rest is not None and more + rest <= most:
                    least[key] = more
                    heappush(waiting, (more, *key))
        return [(price - many, many) for (many, place), price in least.items() if place == goal]

    def _plain_bridges(self, start, goal, most):
        """The row of the cheapest journey of two or more roads, none of them a letter road, in a list; [] if none.

        If most is told, journeys that cost more do not matter.
        """
        near = self._bridges.cheapest(start, goal, NEAR if most is None else most, True)
        if near is not None:
            return [(near[0], 0)]
        if most is not None:
            return []
        price = Atlas(without(self.letter.land, list(self.letter.letters))).least_price(start, goal)
        return [] if price is None else [(price, 0)]

    def span_of(self, road):
        """The span of all letters at which a Road is needed; None if it is needed at none."""
        start, goal = (road.start, 0, 0), (road.end, *road.shift)
        if start == goal:
            return None
        alike = [other for other in self.letter.land.roads_from(road.start) if place_behind(start, other) == goal]
        ahead = [other.name for other in alike].index(road.name)
        singles = [(self.letter.row_along([other]), at > ahead) for at, other in enumerate(alike) if at != ahead]
        mine = self.letter.row_along([road])
        if mine[1] == 0:
            bridges = self._marked_bridges(start, goal, mine[0])
        else:
            # What has a letter road and anything beside it costs more than the letter.
            most = min([row[0] for row, _ in singles if row[1] == 0], default=None)
            bridges = self._plain_bridges(start, goal, most)
        span = Span()
        for row, is_equal_right in singles + [(row, False) for row in bridges]:
            if not _keep_less(span, mine, row, is_equal_right):
                return None
        return span.told()

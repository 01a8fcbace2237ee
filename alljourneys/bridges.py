"""Bridges: cheapest journeys between near places, found road by road."""

from heapq import heappop, heappush

from alljourneys.journeys import place_behind
from alljourneys.rates import times_line

# Lines that tell how far one can get at most to each side.
SIDES = ((1, 0), (0, 1), (-1, 0), (0, -1), (1, 1), (1, -1), (-1, 1), (-1, -1))


class Pull:
    """How far roads, to which more can be added, lead to each side for their prices."""

    def __init__(self):
        self._rates = [(0, 1) for _ in SIDES]

    def take_in(self, shift, price):
        """Add a road with a shift and a price."""
        for at, line in enumerate(SIDES):
            gain = times_line(line, shift)
            if gain * self._rates[at][1] > self._rates[at][0] * price:
                self._rates[at] = (gain, price)

    def bound(self, x, y):
        """A bound from below for the price of a journey with this shift; None if there is none for sure."""
        best = 0
        for line, (top, bottom) in zip(SIDES, self._rates):
            need = line[0] * x + line[1] * y
            if need > 0:
                if top == 0:
                    return None
                best = max(best, -(-need * bottom // top))
        return best


class Bridges:
    """Roads, to which more can be added, and the cheapest journeys over them."""

    def __init__(self, roads):
        self._roads = {}
        self._pull = Pull()
        for road in roads:
            self.take_in(road)

    def take_in(self, road):
        """Add a road."""
        self._roads.setdefault(road.start, []).append(road)
        self._pull.take_in(road.shift, road.price)

    def cheapest(self, start, goal, most, is_long):
        """A tuple of the price and the names of a cheapest journey to another place; None if it costs more than most.

        If is_long is True, journeys of a single road do not count.
        """
        known = {start: (0, None, None)}
        waiting = [(0, 0, start)]
        while waiting:
            _, price, place = heappop(waiting)
            if place == goal:
                return price, _names_to(known, goal)
            if known[place][0] < price:
                continue
            for road in self._roads.get(place[0], ()):
                there = place_behind(place, road)
                more = price + road.price
                if (there in known and known[there][0] <= more) or (is_long and place == start and there == goal):
                    continue
                rest = self._pull.bound(goal[1] - there[1], goal[2] - there[2])
                if rest is not None and more + rest <= most:
                    known[there] = (more, place, road.name)
                    heappush(waiting, (more + rest, more, there))
        return None


def _names_to(known, place):
    """The names of the roads that lead to a place, as told by what is known of each one: (price, before, name)."""
    names = []
    while known[place][1] is not None:
        _, before, name = known[place]
        names.append(name)
        place = before
    return tuple(names[::-1])

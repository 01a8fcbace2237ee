"""Least prices between two places, and whether a road is needed, for all letters."""

from alljourneys.needs import Needs
from alljourneys.rates import lowest
from alljourneys.stretches import require_goal


def _rows_at(told, goal):
    """The dict of the rows (c, k) of all fans of what stretches told that have the goal."""
    rows = {}
    for stretch in told:
        for fan in stretch.fans:
            if fan.spot == goal[0]:
                price = fan.sheet.price_at((goal[1], goal[2]))
                if price is not None:
                    rows[(price, fan.marks.price_at((goal[1], goal[2])))] = True
    return list(rows)


def _lowest_rows(rows):
    """The rows (low, c, k) of the least of c + k * p for all p from 1 on."""
    if not rows:
        return ()
    best = min(rows, key=lambda row: (row[0] + row[1], row[1]))
    found = [((1, 1), *best)]
    while True:
        low = None
        following = None
        for c, k in rows:
            # With fewer letters it is less from some p on; of those that are so from the same p on, the least goes on.
            if k < best[1]:
                begin = lowest(c - best[0], best[1] - k)
                gain = 0 if low is None else begin[0] * low[1] - low[0] * begin[1]
                if low is None or gain < 0 or (gain == 0 and k < following[1]):
                    low, following = begin, (c, k)
        if following is None:
            return tuple(found)
        best = following
        found.append((low, *best))


def price_line(told, goal):
    """The least prices to goal for all letters, as a tuple of rows (low, c, k); () if goal is not reached."""
    require_goal(goal)
    return _lowest_rows(_rows_at(told, goal))


def needed_for(letter, name):
    """The span of all letters at which a road is needed; None if it is needed at none."""
    road = letter.land.road_named(name)
    return Needs(letter).span_of(road)

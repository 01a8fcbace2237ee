"""Papers, which tell and prove all least prices from a start; floors, which bound them from below."""

from alljourneys.checks import is_pair, is_spot
from alljourneys.fans import Fan, fan_holds, is_sheet
from alljourneys.forms import gauges_of
from alljourneys.trees import tree_over


class Paper:
    """Fans from a start, and trees that prove that nothing is cheaper."""

    def __init__(self, start, fans, covers):
        self.start = start
        self.fans = fans
        self.covers = covers


class Floor:
    """Sheets at spots that bound the least prices from a start from below, and trees that prove it."""

    def __init__(self, start, parts, covers):
        self.start = start
        self.parts = parts
        self.covers = covers


def _begins(start, parts):
    """Whether the sheet of some part (spot, sheet) has the place of the start for at most 0."""
    prices = [sheet.price_at((0, 0)) for spot, sheet in parts if spot == start]
    return any([price is not None and price <= 0 for price in prices])


def _covers_hold(land, parts, covers):
    """Whether any value tells, for each part (spot, sheet) and each road from there, a tree that holds."""
    if not isinstance(covers, tuple) or len(covers) != len(parts):
        return False
    gauges = {spot: gauges_of([sheet for place, sheet in parts if place == spot]) for spot in land.spots}
    for (spot, sheet), trees in zip(parts, covers):
        roads = land.roads_from(spot)
        if not isinstance(trees, tuple) or len(trees) != len(roads):
            return False
        for road, tree in zip(roads, trees):
            if not tree_over(sheet.moved(road.shift, road.price), gauges[road.end], tree):
                return False
    return True


def paper_holds(land, paper):
    """Whether any value is a Paper that holds for the map."""
    if not isinstance(paper, Paper) or not is_spot(land, paper.start) or not isinstance(paper.fans, tuple):
        return False
    if not all([isinstance(fan, Fan) and fan_holds(land, paper.start, fan) for fan in paper.fans]):
        return False
    parts = [(fan.spot, fan.sheet) for fan in paper.fans]
    return _begins(paper.start, parts) and _covers_hold(land, parts, paper.covers)


def floor_holds(land, floor):
    """Whether any value is a Floor that holds for the map."""
    if not isinstance(floor, Floor) or not is_spot(land, floor.start) or not isinstance(floor.parts, tuple):
        return False
    if not all([is_pair(part) and is_spot(land, part[0]) and is_sheet(part[1]) for part in floor.parts]):
        return False
    return _begins(floor.start, floor.parts) and _covers_hold(land, floor.parts, floor.covers)

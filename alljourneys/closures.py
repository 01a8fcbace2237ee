"""Each road closed in turn: what that changes between all pairs of places."""

from alljourneys.atlases import Atlas
from alljourneys.bridges import Bridges
from alljourneys.building import without
from alljourneys.comparing import dearer
from alljourneys.detours import Passage
from alljourneys.leastroads import NEAR, needed_roads


class Closing:
    """What closing a road changes."""

    def __init__(self, name, kind, most, start, goal, way):
        self.name = name
        self.kind = kind
        self.most = most
        self.start = start
        self.goal = goal
        self.way = way


def _fans_by(atlas, start, name):
    """The list of the fans from a spot on some of whose journeys a road is gone."""
    return [fan for fan in atlas.fans_from(start)
            if name in fan.journey or any([name in loop for _, loop in fan.rounds])]


def _is_cut(rest, road):
    """Whether the second end of a road is not reached from its first end in an atlas of the map without it."""
    start, goal = (road.start, 0, 0), (road.end, *road.shift)
    if Bridges(rest.land.roads).cheapest(start, goal, NEAR, False) is not None:
        return False
    return Passage(rest.land, road.start, road.end).misses(road.shift) or rest.least_price(start, goal) is None


def _outrun(atlas, rest, name):
    """An endless Closing, if it is plain that some places become dearer and dearer without a road; otherwise None."""
    for start in atlas.land.spots:
        passages = {}
        for fan in _fans_by(atlas, start, name):
            for at, (_, loop) in enumerate(fan.rounds):
                if name in loop:
                    if fan.spot not in passages:
                        passages[fan.spot] = Passage(rest.land, start, fan.spot)
                    told = passages[fan.spot].outrun(fan.sheet, at)
                    if told is not None:
                        return Closing(name, "endless", None, (start, 0, 0), (fan.spot, *told[0]), told[1])
    return None


def _rises(atlas, rest, name):
    """The list of tuples (start, goal, told): between two spots, the Dearer of the sheets that a road is needed for."""
    found = []
    for start in atlas.land.spots:
        fans = _fans_by(atlas, start, name)
        for goal in atlas.land.spots:
            # What does not use the road is no dearer without it.
            sheets = [fan.sheet for fan in fans if fan.spot == goal]
            if sheets:
                found.append((start, goal, dearer(sheets, rest.sheets(start, goal))))
    return found


def _changed(atlas, road):
    """The Closing of a needed road that no other one equals."""
    rest = Atlas(without(atlas.land, [road.name]))
    if _is_cut(rest, road):
        return Closing(road.name, "cut", None, (road.start, 0, 0), (road.end, *road.shift), None)
    told = _outrun(atlas, rest, road.name)
    if told is not None:
        return told
    rises = _rises(atlas, rest, road.name)
    for start, goal, told in rises:
        if told.kind == "endless":
            return Closing(road.name, "endless", None, (start, 0, 0), (goal, *told.cell), told.way)
    most = max([told.most for _, _, told in rises])
    start, goal, told = [row for row in rises if row[2].most == most][0]
    return Closing(road.name, "bounded", most, (start, 0, 0), (goal, *told.cell), None)


def closings(atlas):
    """A tuple with the Closing of each road."""
    land = atlas.land
    kept = {road.name: True for road in needed_roads(land)}
    rows = [(road.start, road.end, road.shift, road.price) for road in land.roads]
    still = (land.spots[0], 0, 0)
    found = []
    for road, row in zip(land.roads, rows):
        if road.name in kept and rows.count(row) == 1:
            found.append(_changed(atlas, road))
        else:
            found.append(Closing(road.name, "bounded", 0, still, still, None))
    return tuple(found)

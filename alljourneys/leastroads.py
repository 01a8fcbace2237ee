"""The roads that least prices need."""

from alljourneys.atlases import Atlas
from alljourneys.bridges import Bridges
from alljourneys.building import without
from alljourneys.errors import Unlike
from alljourneys.maps import map_of

# Up to this price a journey is looked for road by road; an atlas is made for what is dearer, or is not there.
NEAR = 24


def _ends_of(road):
    """The two ends of a road: its start in the cell (0, 0), and the place to which it leads from there."""
    return (road.start, 0, 0), (road.end, *road.shift)


def _row_of(road):
    """The row of a road."""
    return (road.start, road.end, *road.shift, road.price)


def _first_roads(land):
    """The list of the roads of which no other one has the same ends, and is cheaper or stands ahead at that price."""
    firsts = {}
    for road in land.roads:
        ends = _ends_of(road)
        if ends[0] != ends[1] and (ends not in firsts or road.price < firsts[ends].price):
            firsts[ends] = road
    return list(firsts.values())


def needed_roads(land):
    """The list of the needed roads, in the order of the map."""
    # The roads of a journey that makes a road needless are cheaper, and may be taken to be needed themselves.
    bridges = Bridges([])
    found = {}
    for road in sorted(_first_roads(land), key=lambda known: known.price):
        start, end = _ends_of(road)
        if bridges.cheapest(start, end, road.price, True) is None:
            found[road.name] = True
            bridges.take_in(road)
    return [road for road in land.roads if road.name in found]


def needed(land):
    """The tuple of the names of the needed roads."""
    return tuple([road.name for road in needed_roads(land)])


def least_rows(land):
    """The tuple of the rows of the needed roads, in ascending order."""
    return tuple(sorted([_row_of(road) for road in needed_roads(land)]))


def least_map(land):
    """The Map with the needed roads alone."""
    return map_of(land.spots, needed_roads(land))


def instead(land, name):
    """A cheapest journey of needed roads between the ends of a road; None if it is needed."""
    road = land.road_named(name)
    roads = needed_roads(land)
    if road in roads:
        return None
    start, end = _ends_of(road)
    if start == end:
        return ()
    return Bridges(roads).cheapest(start, end, road.price, False)[1]


def same_prices(one, other):
    """A tuple of two places between which least prices are not the same in both maps; None if there are none."""
    if sorted(one.spots) != sorted(other.spots):
        raise Unlike("spots")
    ours, theirs = least_rows(one), least_rows(other)
    alone = [row for row in ours if row not in theirs] + [row for row in theirs if row not in ours]
    if not alone:
        return None
    # The cheapest one: all that is cheaper is the same in both maps, so it has no bridge in the other map.
    start, end, x, y, _ = min(alone, key=lambda row: row[4])
    return ((start, 0, 0), (end, x, y))


def needed_until(land, name):
    """The greatest price up to which a road would be needed; None if it would be with every price."""
    road = land.road_named(name)
    rest = without(land, [name])
    atlas = Atlas(rest)
    start, end = _ends_of(road)
    if start == end:
        return 0
    names = [other.name for other in land.roads]
    alike = [other for other in rest.roads if _ends_of(other) == (start, end)]
    bounds = [other.price if names.index(other.name) > names.index(road.name) else other.price - 1 for other in alike]
    most = min(bounds, default=NEAR)
    near = Bridges(rest.roads).cheapest(start, end, most, True)
    if near is not None:
        bounds.append(near[0] - 1)
    elif not alike:
        price = atlas.least_price(start, end)
        if price is not None:
            bounds.append(price - 1)
    return min(bounds, default=None)

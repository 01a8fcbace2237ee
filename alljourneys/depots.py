"""Stations in every cell, and how far they are."""

from heapq import heappop, heappush

from alljourneys.checks import require_spot
from alljourneys.errors import BadNumber


def _require_stations(land, spots):
    """Raise the error of a list of stations that is empty, or has an item that is no spot."""
    if not spots:
        raise BadNumber("spots", 0)
    for spot in spots:
        require_spot(land, spot)


def station_prices(land, spots):
    """For each spot of the map a tuple of the least price to a station and of such a journey; None if there is none."""
    _require_stations(land, spots)
    numbers = {spot: number for number, spot in enumerate(land.spots)}
    found = {}
    waiting = [(0, numbers[spot], ()) for spot in land.spots if spot in spots]
    while waiting:
        price, number, journey = heappop(waiting)
        if number in found:
            continue
        found[number] = (price, journey)
        for road in land.roads:
            if road.end == land.spots[number] and numbers[road.start] not in found:
                heappush(waiting, (price + road.price, numbers[road.start], (road.name, *journey)))
    return tuple([found.get(number) for number in range(len(land.spots))])


def farthest(land, spots):
    """The names of the spots from which no station is reached; otherwise of those with the greatest price."""
    prices = [None if told is None else told[0] for told in station_prices(land, spots)]
    most = None if None in prices else max(prices)
    return tuple([spot for spot, price in zip(land.spots, prices) if price == most])

"""Random maps, and slow least prices between their places."""

import heapq

from alljourneys.errors import JourneyError
from alljourneys.maps import Map


def random_land(chance, spots=3, roads=6, size=1, dear=6, labels=("k", "l")):
    """A random map."""
    names = ["a", "b", "c", "d"][:spots]
    rows = [f"spot {name}" for name in names]
    for k in range(roads):
        label = chance.choice((" " + chance.choice(labels), "")) if labels else ""
        rows.append(f"road r{k} {chance.choice(names)} {chance.choice(names)} {chance.randint(-size, size)} "
                    f"{chance.randint(-size, size)} {chance.randint(1, dear)}{label}")
    return Map("\n".join(rows))


def prices_from(land, start, most):
    """A dict of the least prices of all places that are reached from a place for at most this price."""
    found = {}
    queue = [(0, start)]
    while queue:
        price, place = heapq.heappop(queue)
        if place in found:
            continue
        found[place] = price
        for road in land.roads_from(place[0]):
            there = (road.end, place[1] + road.shift[0], place[2] + road.shift[1])
            if price + road.price <= most and there not in found:
                heapq.heappush(queue, (price + road.price, there))
    return found


def random_journey(chance, land, spot, many):
    """A random journey of at most so many roads."""
    names = []
    for _ in range(many):
        roads = land.roads_from(spot)
        if not roads:
            break
        road = chance.choice(roads)
        names.append(road.name)
        spot = road.end
    return tuple(names)


def error_of(call, *values):
    """The error that a call raises, as a tuple of its class and its fields; None if it raises none."""
    try:
        call(*values)
    except JourneyError as error:
        return (type(error),) + tuple(vars(error).values())
    return None

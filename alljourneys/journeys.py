"""Where journeys lead."""

from alljourneys.checks import require_place
from alljourneys.errors import BadJourney, NoRoad


def road_from(land, name, spot, index):
    """The Road of this name; BadJourney(index) for any value that is not the name of a road that starts at the spot."""
    try:
        road = land.road_named(name)
    except NoRoad:
        raise BadJourney(index) from None
    if road.start != spot:
        raise BadJourney(index)
    return road


def place_behind(place, road):
    """The place to which a road leads from a place of its start."""
    return (road.end, place[1] + road.shift[0], place[2] + road.shift[1])


def roads_along(land, spot, journey):
    """The list of the Roads of a journey from the spot; None if the value is no tuple of names that is one."""
    if not isinstance(journey, tuple):
        return None
    roads = []
    for name in journey:
        try:
            road = land.road_named(name)
        except NoRoad:
            return None
        if road.start != spot:
            return None
        roads.append(road)
        spot = road.end
    return roads


def round_along(land, spot, journey):
    """The list of the Roads of a round from the spot; None if the value is no tuple of names that is one."""
    roads = roads_along(land, spot, journey)
    if not roads or roads[-1].end != spot:
        return None
    return roads


def shift_of(roads):
    """The sum of the shifts of these Roads."""
    return (sum([road.shift[0] for road in roads]), sum([road.shift[1] for road in roads]))


def price_of(roads):
    """The sum of the prices of these Roads."""
    return sum([road.price for road in roads])


def ended(land, start, journey):
    """A tuple of the place where a journey from start ends, and of its price."""
    require_place(land, start, "start")
    place = start
    price = 0
    for index, name in enumerate(journey):
        road = road_from(land, name, place[0], index)
        place = place_behind(place, road)
        price += road.price
    return (place, price)

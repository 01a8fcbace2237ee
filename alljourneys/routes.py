"""Journeys with repeated parts."""

from alljourneys.checks import is_integer, is_pair, require_place
from alljourneys.errors import BadJourney
from alljourneys.journeys import price_of, roads_along, shift_of


def _roads_of_leg(land, spot, leg):
    """The list of the Roads of a leg from the spot; None if the value is none."""
    if not is_pair(leg) or not is_integer(leg[1]) or leg[1] < 1:
        return None
    roads = roads_along(land, spot, leg[0])
    if not roads or (leg[1] > 1 and roads[-1].end != spot):
        return None
    return roads


def gone(land, start, legs):
    """A tuple of the place where legs from start end, and of the sum of the prices."""
    require_place(land, start, "start")
    spot, x, y = start
    price = 0
    for index, leg in enumerate(legs):
        roads = _roads_of_leg(land, spot, leg)
        if roads is None:
            raise BadJourney(index)
        shift = shift_of(roads)
        spot, x, y = roads[-1].end, x + leg[1] * shift[0], y + leg[1] * shift[1]
        price += leg[1] * price_of(roads)
    return ((spot, x, y), price)

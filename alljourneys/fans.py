"""Fans: infinitely many journeys from one start at once."""

from alljourneys.checks import is_cell, is_integer, is_pair, require_spot
from alljourneys.journeys import price_of, roads_along, round_along, shift_of
from alljourneys.sheets import Sheet


class Fan:
    """A journey from a start, with rounds that may be put in as often as one likes."""

    def __init__(self, spot, sheet, journey, rounds):
        self.spot = spot
        self.sheet = sheet
        self.journey = journey
        self.rounds = rounds


def is_sheet(value):
    """Whether the value is a Sheet of integers."""
    if not isinstance(value, Sheet) or not is_cell(value.base) or not is_integer(value.price):
        return False
    return all([is_cell(step) for step in value.steps]) and all([is_integer(price) for price in value.prices])


def _loop_of(land, start, roads, told):
    """The list of the Roads of a round that is told as (at, loop) beside a journey; None if the value tells none."""
    if not is_pair(told) or not is_integer(told[0]) or not 0 <= told[0] <= len(roads):
        return None
    spot = start if told[0] == 0 else roads[told[0] - 1].end
    return round_along(land, spot, told[1])


def loops_along(land, start, roads, rounds, steps):
    """For each step the list of the Roads of the round with this shift; None if the value does not tell such rounds."""
    if not isinstance(rounds, tuple) or len(rounds) != len(steps):
        return None
    loops = []
    for told, step in zip(rounds, steps):
        loop = _loop_of(land, start, roads, told)
        if loop is None or shift_of(loop) != step:
            return None
        loops.append(loop)
    return loops


def roads_to(land, start, journey, spot, cell):
    """The Roads of a journey from the start to the spot in the cell; None if the value is no such journey."""
    roads = roads_along(land, start, journey)
    if roads is None or not isinstance(spot, str) or shift_of(roads) != cell:
        return None
    return roads if (roads[-1].end if roads else start) == spot else None


def fan_holds(land, start, fan):
    """Whether any value is a Fan that holds for the map and the start."""
    require_spot(land, start)
    if not isinstance(fan, Fan) or not is_sheet(fan.sheet):
        return False
    sheet = fan.sheet
    roads = roads_to(land, start, fan.journey, fan.spot, sheet.base)
    if roads is None or price_of(roads) != sheet.price:
        return False
    loops = loops_along(land, start, roads, fan.rounds, sheet.steps)
    return loops is not None and [price_of(loop) for loop in loops] == list(sheet.prices)

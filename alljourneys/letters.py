"""Maps with a letter, which stands for the price of some roads."""

from alljourneys.atlases import ATLAS_SPOTS
from alljourneys.checks import is_cell, require_spot
from alljourneys.errors import BadJourney, BadNumber, TakenName, TooLarge, TooMany
from alljourneys.fans import is_sheet, loops_along, roads_to
from alljourneys.journeys import road_from
from alljourneys.maps import PRICE_LIMIT, Road, map_of, require_price
from alljourneys.rates import is_ratio
from alljourneys.sheets import Sheet


class Letter:
    """A map in which some roads cost the letter."""

    def __init__(self, land, letters):
        if len(land.spots) > ATLAS_SPOTS:
            raise TooMany("spots", len(land.spots), ATLAS_SPOTS)
        if not letters:
            raise BadNumber("letters", 0)
        self._marked = {}
        for name in letters:
            road = land.road_named(name)
            if road.name in self._marked:
                raise TakenName(road.name)
            self._marked[road.name] = True
        self.land = land
        self.letters = tuple(letters)

    def row_of(self, journey):
        """The price of the roads of a journey that are no letter roads, and how many are, in a tuple."""
        roads = []
        for index, name in enumerate(journey):
            if roads:
                roads.append(road_from(self.land, name, roads[-1].end, index))
            elif isinstance(name, str) and name in [road.name for road in self.land.roads]:
                roads.append(self.land.road_named(name))
            else:
                raise BadJourney(index)
        return self.row_along(roads)

    def row_along(self, roads):
        """The row of a journey of these Roads."""
        plain = sum([road.price for road in roads if road.name not in self._marked])
        return (plain, len([road for road in roads if road.name in self._marked]))

    def at_price(self, price):
        """The Map in which all letter roads have this price."""
        require_price(price)
        if price > PRICE_LIMIT:
            raise TooLarge("price", price, PRICE_LIMIT)
        roads = [Road(road.name, road.start, road.end, road.shift, price if road.name in self._marked else road.price,
                      road.label) for road in self.land.roads]
        return map_of(self.land.spots, roads)


class LetterFan:
    """A fan whose prices are rows: those of sheet, and as often the letter as those of marks."""

    def __init__(self, spot, sheet, marks, journey, rounds):
        self.spot = spot
        self.sheet = sheet
        self.marks = marks
        self.journey = journey
        self.rounds = rounds


def letter_fan_holds(letter, start, fan):
    """Whether any value is a LetterFan that holds for the letter map and the start."""
    require_spot(letter.land, start)
    if not isinstance(fan, LetterFan) or not is_sheet(fan.sheet) or not is_sheet(fan.marks):
        return False
    sheet, marks = fan.sheet, fan.marks
    if sheet.base != marks.base or sheet.steps != marks.steps:
        return False
    roads = roads_to(letter.land, start, fan.journey, fan.spot, sheet.base)
    if roads is None or letter.row_along(roads) != (sheet.price, marks.price):
        return False
    loops = loops_along(letter.land, start, roads, fan.rounds, sheet.steps)
    rows = list(zip(sheet.prices, marks.prices))
    return loops is not None and [letter.row_along(loop) for loop in loops] == rows


def require_ratio(ratio):
    """Raise BadNumber unless the value is a ratio of at least 1."""
    if not is_cell(ratio) or not is_ratio(ratio) or ratio[0] < ratio[1]:
        raise BadNumber("ratio", ratio)


def sheet_at(fan, ratio):
    """The sheet of a LetterFan where the letter is the ratio, with all prices times the bottom of the ratio."""
    require_ratio(ratio)
    top, bottom = ratio
    prices = [bottom * price + top * mark for price, mark in zip(fan.sheet.prices, fan.marks.prices)]
    return Sheet(fan.sheet.base, bottom * fan.sheet.price + top * fan.marks.price, fan.sheet.steps, prices)

"""Maps: one cell of spots and roads, which repeats without end, and its text."""

from alljourneys.checks import is_cell, is_integer, is_name, require_spot
from alljourneys.errors import BadName, BadNumber, NoRoad, NoSpot, TakenName, TooLarge, TooMany
from alljourneys.words import NAME, SHIFTS, new_name, numbers, one_of, raise_too_short, read_text

SPOT_LIMIT = 24
ROAD_LIMIT = 160
SHIFT_LIMIT = 9
PRICE_LIMIT = 99


class Road:
    """A road that stands in every cell: from its start to its end in the cell to which the shift leads."""

    def __init__(self, name, start, end, shift, price, label=None):
        self.name = name
        self.start = start
        self.end = end
        self.shift = shift
        self.price = price
        self.label = label

    def __eq__(self, other):
        return (isinstance(other, Road) and self.name == other.name and self.start == other.start
                and self.end == other.end and self.shift == other.shift and self.price == other.price
                and self.label == other.label)


def road_of(words):
    """The Road that the words of its line tell."""
    label = words[7] if len(words) == 8 else None
    return Road(words[1], words[2], words[3], (int(words[4]), int(words[5])), int(words[6]), label)


def line_of(road):
    """The line that tells a road."""
    x, y = road.shift
    label = "" if road.label is None else f" {road.label}"
    return f"road {road.name} {road.start} {road.end} {x} {y} {road.price}{label}"


def road_rule(words, roads, spots):
    """What may stand behind these words of the line of a road, if it is none of these roads, between these spots."""
    if len(words) == 1:
        return new_name(roads, True)
    return ends_rule(words, spots)


def ends_rule(words, spots):
    """What may stand behind the name in the line of a road between these spots."""
    if len(words) <= 3:
        return one_of(spots)
    if len(words) <= 5:
        return SHIFTS
    if len(words) == 6:
        return numbers(1, PRICE_LIMIT)
    return NAME if len(words) == 7 else None


class MapLines:
    """The kind of the texts of maps; it gathers the spots and the roads."""

    def __init__(self, spots, roads):
        self.spots = {spot: True for spot in spots}
        self.roads = {road.name: road for road in roads}

    def allowed(self, words):
        """What may stand behind these words of a line."""
        if not words:
            heads = ["spot"] if not self.roads and len(self.spots) < SPOT_LIMIT else []
            if self.spots and len(self.roads) < ROAD_LIMIT:
                heads.append("road")
            return one_of(heads)
        if words[0] == "road":
            return road_rule(words, self.roads, list(self.spots))
        return new_name(self.spots, True) if len(words) == 1 else None

    def may_end(self, words):
        """Whether a line may consist of these words."""
        return not words or len(words) == (2 if words[0] == "spot" else 7) or len(words) == 8

    def take(self, words):
        """Add the spot or the road of a line."""
        if words[0] == "spot":
            self.spots[words[1]] = True
        else:
            self.roads[words[1]] = road_of(words)


class Map:
    """A map, read from its text."""

    def __init__(self, text):
        lines = MapLines((), ())
        read_text(text, lines)
        if not lines.spots:
            raise_too_short(text)
        self.spots = tuple(list(lines.spots))
        self.roads = tuple(list(lines.roads.values()))
        rows = [f"spot {spot}\n" for spot in self.spots] + [f"{line_of(road)}\n" for road in self.roads]
        self.text = "".join(rows)
        self._by_name = {road.name: road for road in self.roads}

    def __eq__(self, other):
        return isinstance(other, Map) and self.text == other.text

    def road_named(self, name):
        """The Road of this name."""
        if not isinstance(name, str) or name not in self._by_name:
            raise NoRoad(name)
        return self._by_name[name]

    def roads_from(self, spot):
        """The tuple of the Roads that start at this spot."""
        require_spot(self, spot)
        return tuple([road for road in self.roads if road.start == spot])


def require_few(spots, roads):
    """Raise TooMany if there would be more spots, or more roads, than a map can have."""
    if spots > SPOT_LIMIT:
        raise TooMany("spots", spots, SPOT_LIMIT)
    if roads > ROAD_LIMIT:
        raise TooMany("roads", roads, ROAD_LIMIT)


def _require_new(name, taken):
    """Raise BadName or TakenName unless the value is a name that is not taken; then take it."""
    if not is_name(name):
        raise BadName(name)
    if name in taken:
        raise TakenName(name)
    taken[name] = True


def require_price(price):
    """Raise BadNumber unless the value is an integer from 1 on."""
    if not is_integer(price) or price < 1:
        raise BadNumber("price", price)


def require_near(shift):
    """Raise TooLarge for the first number of the shift that is too far from 0."""
    for number in shift:
        if not -SHIFT_LIMIT <= number <= SHIFT_LIMIT:
            raise TooLarge("shift", number, SHIFT_LIMIT)


def _require_road(road, spots):
    """Raise the first error of a Road, but for its name, on a map with these spots."""
    for spot in (road.start, road.end):
        if not isinstance(spot, str) or spot not in spots:
            raise NoSpot(spot)
    if not is_cell(road.shift):
        raise BadNumber("shift", road.shift)
    require_near(road.shift)
    require_price(road.price)
    if road.price > PRICE_LIMIT:
        raise TooLarge("price", road.price, PRICE_LIMIT)
    if road.label is not None and not is_name(road.label):
        raise BadName(road.label)


def map_of(spots, roads):
    """The Map with these spots and Roads."""
    if not spots:
        raise BadNumber("spots", 0)
    require_few(len(spots), len(roads))
    taken = {}
    for spot in spots:
        _require_new(spot, taken)
    names = {}
    for road in roads:
        _require_new(road.name, names)
        _require_road(road, taken)
    rows = [f"spot {spot}" for spot in spots] + [line_of(road) for road in roads]
    return Map("\n".join(rows))

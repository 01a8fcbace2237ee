"""Promises about the maps of a desk: what they are, and whether they hold."""

from alljourneys.atlases import Atlas
from alljourneys.bridges import Bridges
from alljourneys.building import turned
from alljourneys.checks import is_integer, is_name
from alljourneys.covers import Gap, covered
from alljourneys.errors import BadPromise, BadText
from alljourneys.fans import is_sheet
from alljourneys.guides import first_loss
from alljourneys.leastroads import needed_roads
from alljourneys.rings import Ring, ring_of
from alljourneys.tables import Table

SIZES = {"within": 5, "table": 3, "calm": 2, "rise": 3}


def _is_promise(value):
    """Whether any value is a promise."""
    if not isinstance(value, tuple) or len(value) < 2 or not isinstance(value[0], str) or value[0] not in SIZES:
        return False
    kind = value[0]
    if len(value) != SIZES[kind] or not is_name(value[1]):
        return False
    if kind == "within":
        return isinstance(value[2], str) and isinstance(value[3], str) and is_sheet(value[4])
    if kind == "table":
        return isinstance(value[2], str)
    return kind == "calm" or (is_integer(value[2]) and value[2] >= 0)


def require_promise(value):
    """Raise BadPromise unless the value is a promise."""
    if not _is_promise(value):
        raise BadPromise(value)


HOLDS = (True, None)
FAILS = (False, None)


class Watch:
    """Whether promises hold; what is found is kept for all equal maps."""

    def __init__(self):
        self._atlases = {}
        self._found = {}

    def look(self, promise, land, parent):
        """A tuple of whether a promise holds, and a witness; its map, and the parent of this, may be None."""
        if land is None or (promise[0] == "rise" and parent is None):
            return FAILS
        key = (_told_of(promise), land.text, parent.text if promise[0] == "rise" else "")
        if key not in self._found:
            self._found[key] = self._looked(promise, land, parent)
        return self._found[key]

    def _looked(self, promise, land, parent):
        """What look tells of maps that are there."""
        if promise[0] == "within":
            return self._within(land, promise[2], promise[3], promise[4])
        if promise[0] == "table":
            return self._table(land, promise[2])
        if promise[0] == "rise":
            return self._rise(land, parent, promise[2])
        told = ring_of(land)
        return (False, (told.spot, told.legs)) if isinstance(told, Ring) else HOLDS

    def _atlas_of(self, land):
        """An Atlas of a map."""
        if land.text not in self._atlases:
            self._atlases[land.text] = Atlas(land)
        return self._atlases[land.text]

    def _within(self, land, start, goal, sheet):
        """Whether all cells of a sheet are reached for at most its prices, and a place that is not."""
        if start not in land.spots or goal not in land.spots:
            return FAILS
        told = covered(sheet, self._atlas_of(land).sheets(start, goal))
        return (False, (goal, *told.cell)) if isinstance(told, Gap) else HOLDS

    def _table(self, land, text):
        """Whether a table loses nothing, and a place with a goal for which it does."""
        try:
            table = Table(land, text)
        except BadText:
            return FAILS
        told = first_loss(table, self._atlas_of(turned(land)))
        return HOLDS if told is None else (False, told)

    def _rise(self, land, parent, most):
        """Whether no price is more above that of the parent, and two places between which one is."""
        if not all([spot in land.spots for spot in parent.spots]):
            return FAILS
        old, new = self._atlas_of(parent), self._atlas_of(land)
        lost = _dearer_road(parent, land)
        if lost is None:
            return HOLDS
        if most == 0:
            return (False, lost)
        for start in parent.spots:
            for goal in parent.spots:
                for sheet in old.sheets(start, goal):
                    told = covered(sheet.moved((0, 0), most), new.sheets(start, goal))
                    if isinstance(told, Gap):
                        return (False, ((start, 0, 0), (goal, *told.cell)))
        return HOLDS


def _told_of(promise):
    """What a promise asks of its map, as a key."""
    if promise[0] != "within":
        return (promise[0], *promise[2:])
    sheet = promise[4]
    return (*promise[:1], *promise[2:4], sheet.base, sheet.price, sheet.steps, sheet.prices)


def _dearer_road(parent, land):
    """The two ends of a needed road of the parent that costs more in another map; None if there is none."""
    # If there is none, each journey of the parent can be gone for at most its price in the other map.
    bridges = Bridges(land.roads)
    for road in needed_roads(parent):
        start, goal = (road.start, 0, 0), (road.end, *road.shift)
        if bridges.cheapest(start, goal, road.price, False) is None:
            return start, goal
    return None

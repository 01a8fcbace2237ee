"""What an edit changes between two spots."""

from alljourneys.checks import require_spot
from alljourneys.comparing import dearer
from alljourneys.owners import cheaper_parts


def _require_spots(old, new, start, goal):
    """Raise NoSpot for the first one of start and goal that one of the maps lacks."""
    for spot in (start, goal):
        require_spot(old.land, spot)
        require_spot(new.land, spot)


def change(old, new, start, goal):
    """By how much new is dearer than old, as a Dearer."""
    _require_spots(old, new, start, goal)
    return dearer(old.sheets(start, goal), new.sheets(start, goal))


def cheaper(old, new, start, goal):
    """A tuple of sheets with the cells that new reaches for less than old; each cell is in just one of them."""
    _require_spots(old, new, start, goal)
    return tuple([part.sheet for part in cheaper_parts(new.sheets(start, goal), old.sheets(start, goal))])

"""How many places lie within a price, and which have it."""

from alljourneys.checks import require_spot
from alljourneys.counting import count_within
from alljourneys.owners import parts_of


def within(atlas, start, most):
    """The number of all places that are reached from a spot for at most this price."""
    require_spot(atlas.land, start)
    return sum([count_within(atlas.sheets(start, spot), most) for spot in atlas.land.spots])


def parts_from(atlas, start):
    """A tuple of tuples (spot, sheet); each place that is reached from a spot belongs to exactly one of them."""
    require_spot(atlas.land, start)
    parts = []
    for spot in atlas.land.spots:
        parts.extend([(spot, part.sheet) for part in parts_of(atlas.sheets(start, spot))])
    return tuple(parts)

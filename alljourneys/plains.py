"""Whether sheets have, together, all cells of the plane."""

from alljourneys.forms import whole
from alljourneys.regions import quarters
from alljourneys.searching import searched_by
from alljourneys.takers import FREE, takers_of


def missed_cell(sheets):
    """A cell that none of the sheets has; None if there is none."""
    takers = takers_of(sheets)
    for quarter in quarters():
        tree, hole = searched_by(whole(quarter), takers, FREE)
        if tree is None:
            return hole.missed_cells()[0]
    return None

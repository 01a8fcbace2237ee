"""Trees over a sheet: proofs that other sheets have all of its cells for at most its prices."""

from alljourneys.forms import gauges_of, is_divided, is_naught, reading, stays_up, whole
from alljourneys.nodes import is_end, is_index, trees_hold


def has_piece(gauge, piece, spare):
    """Whether the sheet of the gauge has all cells of the piece, and is cheaper by spare over many or more."""
    for form in gauge.tops:
        top = reading(form, piece)
        if not stays_up(top) or not is_divided(top, gauge.many):
            return False
    for form in gauge.offsets:
        if not is_naught(reading(form, piece)):
            return False
    return stays_up(reading(gauge.spare, piece), spare)


def tree_over(sheet, gauges, tree):
    """Whether any value is a tree over the sheet whose ends hold over the sheets of the gauges."""

    def fits(_, piece, node):
        return is_end(node, "end", 2) and is_index(node[1], gauges) and has_piece(gauges[node[1]], piece, 0)

    return trees_hold((whole(sheet),), (tree,), fits)


def tree_holds(sheet, sheets, tree):
    """Whether any value is a tree over the sheet whose ends hold over the sheets."""
    return tree_over(sheet, gauges_of(sheets), tree)

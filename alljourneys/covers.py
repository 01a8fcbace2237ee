"""Whether each cell of a sheet is had by other sheets for at most its price, and by how much they are dearer."""

from alljourneys.forms import gauges_of, whole
from alljourneys.nodes import ends_of
from alljourneys.searching import EXACT, FREE, SLACK, left_behind, searched


class Cover:
    """Each cell is had for at most its price; the tree shows it."""

    def __init__(self, tree):
        self.tree = tree


class Gap:
    """A cell that is not had for at most its price."""

    def __init__(self, cell):
        self.cell = cell


class Rise:
    """By how much sheets are dearer than a sheet."""

    def __init__(self, kind, most, cell, way, tree):
        self.kind = kind
        self.most = most
        self.cell = cell
        self.way = way
        self.tree = tree


def covered(sheet, sheets):
    """A Cover if each cell of the sheet is had by one of the sheets for at most its price, otherwise a Gap."""
    tree, hole = searched(whole(sheet), gauges_of(sheets), EXACT)
    return Gap(hole.missed_cell()) if tree is None else Cover(tree)


def rise(sheet, sheets):
    """By how much the sheets are dearer than the sheet, as a Rise."""
    gauges = gauges_of(sheets)
    piece = whole(sheet)
    tree, hole = searched(piece, gauges, SLACK)
    if tree is not None:
        return _bounded(sheet, sheets, tree)
    if hole.times is not None:
        # Here prices alone may have failed; only a search without them tells whether cells are missing, too.
        missing = searched(piece, gauges, FREE)[1]
        if missing is None:
            return _endless(hole)
        return Rise("cut", None, missing.missed_cell(), None, None)
    return Rise("cut", None, hole.missed_cell(), None, None)


def _endless(hole):
    """The Rise of a way on which each sheet is left behind, or becomes dearer and dearer."""
    begin, wide = 0, 1
    for view in hole.views:
        behind = left_behind(view.tops, view.offsets, hole.times)
        if behind is None:
            # The top of the rise grows by so much each time, so it is at least k times its bottom after enough times.
            growth = -(view.spare[1] + hole.times * view.spare[2])
            behind = -(-view.spare[0] // growth)
            wide = max(wide, -(-view.many // growth))
        begin = max(begin, behind)
    shift = hole.along()
    return Rise("endless", None, hole.cell_after(begin), (wide * shift[0], wide * shift[1]), None)


def _difference(sheet, sheets, cell):
    """The least price of a cell of the sheet by the sheets, less its price by the sheet."""
    prices = [other.price_at(cell) for other in sheets]
    return min([price for price in prices if price is not None]) - sheet.price_at(cell)


def _bounded(sheet, sheets, tree):
    """The Rise if there is a greatest difference; the tree holds for the sheet with a price that is great enough."""
    gauges = gauges_of(sheets)
    low, high, cell = None, None, None
    for piece, node in ends_of(whole(sheet), tree):
        base = (piece[0][0], piece[0][1])
        price = sheets[node[1]].price_at(base) - piece[0][2]
        high = price if high is None else max(high, price)
        least = _difference(sheet, sheets, base)
        if low is None or least > low:
            low, cell = least, base
    # Between the greatest difference known and the bound by the tree, the first guess is that it is known already.
    guess = low
    while low < high:
        better, hole = searched(whole(sheet.moved((0, 0), guess)), gauges, EXACT)
        if better is None:
            cell = hole.missed_cell()
            low = _difference(sheet, sheets, cell)
        else:
            tree, high = better, guess
        guess = (low + high) // 2
    return Rise("bounded", low, cell, None, tree)

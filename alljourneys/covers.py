"""Whether each cell of a sheet is had by other sheets for at most its price, and by how much they are dearer."""

from alljourneys.forms import whole
from alljourneys.nodes import ends_of, is_parting, parted
from alljourneys.searching import QUICK, judged, left_behind, searched, searched_by
from alljourneys.shelves import Shelf
from alljourneys.takers import EXACT, FREE, SLACK, takers_of

# Counts of cells at which the greatest difference is looked for first; and those behind them, where it is not there.
NEAR_COUNTS = (0, 1)
FAR_COUNTS = (2, 3, 5, 8, 13, 34, 89, 233, 610)


class Cover:
    """Each cell is had for at most its price; the tree shows it."""

    def __init__(self, tree):
        self.tree = tree


class Gap:
    """A cell that is not had for at most its price."""

    def __init__(self, cell):
        self.cell = cell


class Rise:
    """By how much sheets are dearer than a sheet."""

    def __init__(self, kind, most, cell, way, tree):
        self.kind = kind
        self.most = most
        self.cell = cell
        self.way = way
        self.tree = tree


def covered(sheet, sheets):
    """A Cover if each cell of the sheet is had by one of the sheets for at most its price, otherwise a Gap."""
    tree, hole = searched(whole(sheet), sheets, EXACT)
    return Gap(hole.missed_cells()[0]) if tree is None else Cover(tree)


class Rivals:
    """Sheets beside which others are looked at, so that what is needed of them is made only once."""

    def __init__(self, sheets):
        self.takers = takers_of(sheets)
        self._shelf = Shelf()
        for index, sheet in enumerate(sheets):
            self._shelf.take_in(index, sheet)

    def surplus(self, sheet, cell):
        """The least price of a cell of the sheet by the rivals, less its price by the sheet."""
        return self._shelf.best_at(cell)[0] - sheet.price_at(cell)


def rise(sheet, sheets):
    """By how much the sheets are dearer than the sheet, as a Rise."""
    return rise_beside(sheet, Rivals(sheets))


def rise_beside(sheet, rivals):
    """By how much the Rivals are dearer than the sheet, as a Rise."""
    piece = whole(sheet)
    tree, hole = searched_by(piece, rivals.takers, SLACK)
    if tree is not None:
        return _bounded(sheet, rivals, tree)
    if hole.times is not None:
        # Here prices alone may have failed; only a search without them tells whether cells are missing, too.
        missing = searched_by(piece, rivals.takers, FREE)[1]
        if missing is None:
            return _endless(hole)
        return Rise("cut", None, missing.missed_cells()[0], None, None)
    return Rise("cut", None, hole.missed_cells()[0], None, None)


def _endless(hole):
    """The Rise of a way on which each sheet is left behind, or becomes dearer and dearer."""
    begin, wide = 0, 1
    for view in hole.views:
        behind = left_behind(view.tops, view.offsets, hole.times)
        if behind is None:
            # The top of the rise grows by so much each time, so it is at least k times its bottom after enough times.
            growth = -(view.spare[1] + hole.times * view.spare[2])
            behind = -(-view.spare[0] // growth)
            wide = max(wide, -(-view.many // growth))
        begin = max(begin, behind)
    shift = hole.along()
    return Rise("endless", None, hole.cell_after(begin), (wide * shift[0], wide * shift[1]), None)


def _samples(sheet, numbers):
    """The list of the cells of a sheet to which counts of these numbers lead."""
    samples = [()]
    for _ in sheet.steps:
        samples = [(*counts, number) for counts in samples for number in numbers]
    return [sheet.cell_of(counts) for counts in samples]


def _bounded(sheet, rivals, tree):
    """The Rise if there is a greatest difference; the tree holds for the sheet with a price that is great enough.

    The sheet is made dearer whenever a piece has a greater difference. What is done
    by then holds all the more, so the search can go on from there.
    """
    # The more is known of the greatest difference ahead, the less is told apart that need not be.
    cells = [(piece[0][0], piece[0][1]) for piece, _ in ends_of(whole(sheet), tree)] + _samples(sheet, NEAR_COUNTS)
    most, cell = max([(rivals.surplus(sheet, near), near) for near in cells])
    is_first = True
    nodes = []
    waiting = [(whole(sheet), rivals.takers)]
    while waiting:
        piece, left = waiting.pop()
        (x, y, price), directions = piece
        node, behind = judged(((x, y, price + most), directions), left, EXACT, len(nodes) > QUICK)
        if node is None:
            # Sheets that were left out for a lesser price may have cells now, so all are looked at once more.
            waiting.append((piece, rivals.takers))
            cells = behind.missed_cells() + (_samples(sheet, NEAR_COUNTS + FAR_COUNTS) if is_first else [])
            most, cell = max([(most, cell)] + [(rivals.surplus(sheet, far), far) for far in cells])
            is_first = False
            continue
        nodes.append(node)
        if is_parting(piece, node):
            waiting.extend([(part, behind) for part in parted(piece, node)[::-1]])
    return Rise("bounded", most, cell, None, tuple(nodes))

"""Which of several sheets each cell belongs to, and trees that show it."""

from alljourneys.forms import gauges_of, reading, whole
from alljourneys.growing import grown
from alljourneys.nodes import ends_of, is_end, is_index, trees_hold
from alljourneys.pieced import sheet_of
from alljourneys.settling import Claim, settling
from alljourneys.takers import EXACT, left_of, scanned, takers_of

OWN = ("own",)

# A node is chosen by so many rivals; to heed more of them takes longer, and makes the trees no smaller.
HEED = 8


class Part:
    """The cells of a piece, with their least prices, and the index of the sheet that they belong to."""

    def __init__(self, index, sheet):
        self.index = index
        self.sheet = sheet


def rivals_beside(takers, owner):
    """The takers but for the owner, told by its index, dearer by 1 where cells belong to the owner for equal prices."""
    rivals = []
    for kind, rows in takers:
        others = [(index, first, second, third - 1 if index > owner else third)
                  for index, first, second, third in rows if index != owner]
        rivals.append((kind, others))
    return rivals


def _open_claim(kind, readings):
    """The Claim that a taker has cells of a piece, for at most their prices, on which it is so."""
    tops = readings[:kind.count]
    groups = [(tops, kind.many)] if kind.many > 1 else []
    return Claim([*tops, readings[2]], list(readings[kind.count:2]), groups)


def _judged(piece, rivals):
    """The nodes of a piece, and the rivals that are left behind them."""
    index, found = scanned(piece, rivals, EXACT)
    if index is not None:
        return (("end", index),), None
    if not found:
        return (OWN,), None
    claims = [_open_claim(kind, readings) for kind, _, readings in found[:HEED]]
    return settling(claims), left_of(found)


def owned(sheets):
    """A tuple of one tree for each sheet, which tells what cells of it belong to it, and to whom the others do not."""
    takers = takers_of(sheets)
    return tuple([grown(whole(sheet), rivals_beside(takers, owner), _judged) for owner, sheet in enumerate(sheets)])


def _claim_on(gauge, piece, is_behind):
    """The Claim that cells of a piece belong to the sheet of a gauge: for less, if it stands behind, or for as much."""
    tops = [reading(form, piece) for form in gauge.tops]
    low, first, second = reading(gauge.spare, piece)
    offsets = [reading(form, piece) for form in gauge.offsets]
    return Claim([*tops, (low - 1 if is_behind else low, first, second)], offsets, [(tops, gauge.many)])


def owners_hold(sheets, trees):
    """Whether any value is a tuple of one tree for each sheet whose ends tell to whom its cells belong."""
    gauges = gauges_of(sheets)

    def fits(owner, piece, node):
        if is_end(node, "own", 1):
            return all([_claim_on(gauge, piece, index > owner).is_out() for index, gauge in enumerate(gauges)
                        if index != owner])
        if not is_end(node, "end", 2) or not is_index(node[1], gauges) or node[1] == owner:
            return False
        return _claim_on(gauges[node[1]], piece, node[1] > owner).is_held()

    return trees_hold([whole(sheet) for sheet in sheets], trees, fits)


def own_parts(sheets, trees):
    """The list of the Parts that these trees over the first ones of the sheets tell to be the sheet's own."""
    parts = []
    for index, tree in enumerate(trees):
        for piece, node in ends_of(whole(sheets[index]), tree):
            if node == OWN:
                parts.append(Part(index, sheet_of(piece)))
    return parts


def parts_of(sheets):
    """A tuple of Parts; each cell that one of the sheets has is in exactly one of them, for the least price."""
    return tuple(own_parts(sheets, owned(sheets)))


def cheaper_parts(sheets, others):
    """The list of Parts with the cells that one of the sheets has, and none of the others for at most as much."""
    takers = takers_of(sheets)
    theirs = takers_of(others)
    trees = [grown(whole(sheet), rivals_beside(takers, owner) + theirs, _judged) for owner, sheet in enumerate(sheets)]
    return own_parts(sheets, trees)


def least_at(sheets, cell):
    """A tuple of the least price of the cell and the index of the sheet that it belongs to; None if no sheet has it."""
    prices = [sheet.price_at(cell) for sheet in sheets]
    return min([(price, index) for index, price in enumerate(prices) if price is not None], default=None)

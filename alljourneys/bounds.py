"""Up to which letter the trees of a paper hold."""

from alljourneys.forms import Gauge, reading, whole
from alljourneys.nodes import ends_of
from alljourneys.rates import lowest


class Rows:
    """The fans of one spot by their prices and by their marks, as gauges."""

    def __init__(self):
        self.fans = []
        self.unmarked = []
        self.marked = []

    def enter(self, fan):
        """Add a fan."""
        self.fans.append(fan)
        self.unmarked.append(Gauge(fan.sheet))
        self.marked.append(Gauge(fan.marks))


def _spares(gauges, sheet, tree):
    """The numbers of the spares, at the base and for each direction, at all ends of a tree over the sheet."""
    return [number for piece, node in ends_of(whole(sheet), tree) for number in reading(gauges[node[1]].spare, piece)]


def bound_of(rows, fan, shift, row, tree):
    """The greatest letter at which a tree holds for a fan moved by a road with this row; None if there is none."""
    plain = _spares(rows.unmarked, fan.sheet.moved(shift, row[0]), tree)
    marked = _spares(rows.marked, fan.marks.moved(shift, row[1]), tree)
    best = None
    for number, change in zip(plain, marked):
        # What is not below 0 at some letter, and becomes less with it, is 0 at just one.
        if change < 0 and (best is None or number * best[1] < best[0] * -change):
            best = lowest(number, -change)
    return best

"""Regions of the plane, told by rows, and the sheets that they consist of."""

from alljourneys.errors import BadNumber
from alljourneys.forms import Gauge, is_broken, is_divided, reading, stays_low, stays_up, whole
from alljourneys.growing import grown
from alljourneys.nodes import ends_of, is_end, is_index, trees_hold
from alljourneys.pieced import sheet_of
from alljourneys.settling import Claim
from alljourneys.sheets import Sheet
from alljourneys.weighing import weighed

IN = ("in",)


class Region:
    """The set of all cells at which each row holds."""

    def __init__(self, rows):
        for row in rows:
            if row[0] == "rest" and row[4] < 1:
                raise BadNumber("m", row[4])
        self.rows = tuple([tuple(row) for row in rows])

    def __contains__(self, cell):
        return all([_row_fits(row, cell) for row in self.rows])

    def __and__(self, other):
        return Region(self.rows + other.rows)

    @staticmethod
    def of(sheet):
        """A Region that has just the cells of the sheet."""
        gauge = Gauge(sheet)
        rows = []
        for c, a, b, _ in gauge.tops:
            rows.append(("least", a, b, c))
            if gauge.many > 1:
                rows.append(("rest", a, b, c, gauge.many))
        for c, a, b, _ in gauge.offsets:
            rows.append(("least", a, b, c))
            rows.append(("least", -a, -b, -c))
        return Region(rows)

    def quarter_trees(self):
        """A tuple of one tree over each of the quarters, which tells what cells of it are in the region."""
        rows = list(enumerate(self.rows))
        return tuple([grown(whole(quarter), rows, _judged) for quarter in quarters()])

    def sheets(self):
        """A tuple of sheets; each cell of the region is in exactly one of them, and no other cell is in any."""
        found = []
        for quarter, tree in zip(quarters(), self.quarter_trees()):
            found.extend([sheet_of(piece) for piece, node in ends_of(whole(quarter), tree) if node == IN])
        return tuple(found)


def quarters():
    """The four sheets of a quarter of the plane each."""
    return (
        Sheet((0, 0), 0, ((1, 0), (0, 1)), (0, 0)),
        Sheet((-1, 0), 0, ((0, 1), (-1, 0)), (0, 0)),
        Sheet((-1, -1), 0, ((-1, 0), (0, -1)), (0, 0)),
        Sheet((0, -1), 0, ((0, -1), (1, 0)), (0, 0)),
    )


def _row_fits(row, cell):
    """Whether a row holds at a cell."""
    number = row[1] * cell[0] + row[2] * cell[1] + row[3]
    return number >= 0 if row[0] == "least" else number % row[4] == 0


def _number(row, piece):
    """The number of a row on a piece, as told by reading."""
    return reading((row[3], row[1], row[2], 0), piece)


def _holds_on(row, piece):
    """Whether a row surely holds at all cells of a piece."""
    number = _number(row, piece)
    return stays_up(number) if row[0] == "least" else is_divided(number, row[4])


def _fails_on(row, piece):
    """Whether a row surely holds at no cell of a piece."""
    number = _number(row, piece)
    return stays_low(number) if row[0] == "least" else is_broken(number, row[4])


def _judged(piece, rows):
    """The nodes of a piece, and the rows, with their indexes, that are left behind them."""
    for index, row in rows:
        if _fails_on(row, piece):
            return (("out", index),), None
    left = [(index, row) for index, row in rows if not _holds_on(row, piece)]
    if not left:
        return (IN,), None
    numbers = [_number(row, piece) for _, row in left if row[0] == "least"]
    groups = [([_number(row, piece)], row[4]) for _, row in left if row[0] == "rest"]
    return (weighed(Claim(numbers, [], groups)),), left


def region_holds(region, trees):
    """Whether any value is a tuple of one tree over each quarter whose ends tell what is in the region."""
    rows = region.rows

    def fits(_, piece, node):
        if is_end(node, "in", 1):
            return all([_holds_on(row, piece) for row in rows])
        return is_end(node, "out", 2) and is_index(node[1], rows) and _fails_on(rows[node[1]], piece)

    return trees_hold([whole(quarter) for quarter in quarters()], trees, fits)


def _miss(row, sheet):
    """A cell of the sheet at which a row does not hold; None if there is none."""
    piece = whole(sheet)
    if _holds_on(row, piece):
        return None
    number = _number(row, piece)
    if not _row_fits(row, sheet.base):
        return sheet.base
    # The row holds at the base, so some direction changes its number the wrong way.
    if row[0] == "rest":
        times = [1 if change % row[4] != 0 else 0 for change in number[1:]]
    else:
        times = [number[0] // -change + 1 if change < 0 else 0 for change in number[1:]]
    side = 0 if times[0] > 0 else 1
    step = sheet.steps[side]
    return (sheet.base[0] + times[side] * step[0], sheet.base[1] + times[side] * step[1])


def region_gap(one, other):
    """A cell that the first region has and the other one has not; None if there is none."""
    for sheet in one.sheets():
        for row in other.rows:
            cell = _miss(row, sheet)
            if cell is not None:
                return cell
    return None

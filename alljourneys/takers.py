"""Sheets that may take cells of a piece, many of them at once: those with the same steps and prices are of one kind."""

from alljourneys.forms import Gauge

# How prices are looked at: as they are; as if the sheet were dearer by any number; or not at all.
EXACT = 0
SLACK = 1
FREE = 2

STILL = (0, 0, 0)


class Kind:
    """What the gauges of sheets with the same steps and prices have in common: their forms without the constants.

    There are three of them: two of tops or offsets, of which the first count ones are
    tops, and that of the spare, which is many more for each 1 of the price.
    """

    def __init__(self, sheet):
        gauge = Gauge(sheet)
        self.many = gauge.many
        self.count = len(gauge.tops)
        (_, a, b, _), (_, c, d, _) = gauge.tops + gauge.offsets
        _, e, f, _ = gauge.spare
        self.forms = ((a, b), (c, d), (e, f))

    def row_of(self, index, sheet):
        """What a sheet of the kind is as a taker: its index, and the constants of the forms."""
        first, second, third = [form[0] * sheet.base[0] + form[1] * sheet.base[1] for form in self.forms]
        return (index, -first, -second, -third - self.many * sheet.price)

    def readings(self, base, one, two):
        """The numbers of the three forms, without their constants, at a base, and their changes by two directions."""
        (a, b), (c, d), (e, f) = self.forms
        (x, y, price), (dx, dy, dp), (ex, ey, ep) = base, one, two
        many = self.many
        return (a * x + b * y, a * dx + b * dy, a * ex + b * ey, c * x + d * y, c * dx + d * dy, c * ex + d * ey,
                e * x + f * y + many * price, e * dx + f * dy + many * dp, e * ex + f * ey + many * ep)


class Takers:
    """Sheets that may take pieces, by their kinds."""

    def __init__(self):
        self._groups = {}

    def take_in(self, index, sheet):
        """Add a sheet with an index."""
        key = (sheet.steps, sheet.prices)
        if key not in self._groups:
            self._groups[key] = (Kind(sheet), [])
        kind, rows = self._groups[key]
        rows.append(kind.row_of(index, sheet))

    def told(self):
        """The list of tuples of a kind and the list of the rows of its sheets."""
        return list(self._groups.values())


def takers_of(sheets):
    """The list of the sheets as takers, as Takers tells it."""
    takers = Takers()
    for index, sheet in enumerate(sheets):
        takers.take_in(index, sheet)
    return takers.told()


def scanned(piece, takers, mode):
    """A tuple of the index of a taker that has all of a piece, or None, and of a list of those that may have some.

    The list has tuples (kind, row, readings) of those that are not out by a single
    number; the readings are the two of tops and offsets, and that of the spare.
    """
    base, directions = piece
    one = directions[0] if directions else STILL
    two = directions[1] if len(directions) == 2 else STILL
    found = []
    for kind, rows in takers:
        many, count = kind.many, kind.count
        u, u1, u2, v, v1, v2, w, w1, w2 = kind.readings(base, one, two)
        # Tops are out where they stay low or broken; offsets are so where they stay low or high.
        u_sinks, u_rises = u1 <= 0 and u2 <= 0, count == 0 and u1 >= 0 and u2 >= 0
        v_sinks, v_rises = v1 <= 0 and v2 <= 0, count < 2 and v1 >= 0 and v2 >= 0
        w_sinks = mode == EXACT and w1 <= 0 and w2 <= 0
        u_is_whole = (u1 % many == 0 and u2 % many == 0) if count > 0 else (u1 == 0 and u2 == 0)
        v_is_whole = (v1 % many == 0 and v2 % many == 0) if count == 2 else (v1 == 0 and v2 == 0)
        may_take = (u_is_whole and v_is_whole and u1 >= 0 and u2 >= 0 and v1 >= 0 and v2 >= 0
                    and (mode == FREE or (w1 >= 0 and w2 >= 0)))
        u_may_break, v_may_break = many > 1 and count > 0 and u_is_whole, many > 1 and count == 2 and v_is_whole
        for row in rows:
            _, first, second, third = row
            first, second, third = u + first, v + second, w + third
            if (u_sinks and first < 0) or (v_sinks and second < 0) or (w_sinks and third < 0):
                continue
            if (u_rises and first > 0) or (v_rises and second > 0):
                continue
            if (u_may_break and first % many != 0) or (v_may_break and second % many != 0):
                continue
            if may_take and first >= 0 and second >= 0 and (mode != EXACT or third >= 0):
                return row[0], []
            found.append((kind, row, ((first, u1, u2), (second, v1, v2), (third, w1, w2))))
    return None, found


def left_of(found):
    """The takers of tuples that begin with a kind and a row of it, as Takers tells them."""
    left = []
    last = None
    for known in found:
        if known[0] != last:
            last = known[0]
            left.append((last, []))
        left[-1][1].append(known[1])
    return left

"""What sheets and rows say of the cells of a piece, told in integers alone.

A piece is a tuple (base, directions), as in the document; but its base and its
directions are told as (x, y, price): the cell to which the counts lead, and its
price, so that many sheets can be asked without going through counts. A form is a
tuple (c, a, b, e), which gives c + a x + b y + e price at such a base.
"""

from alljourneys.sheets import cross


def whole(sheet):
    """The whole sheet as a piece."""
    directions = tuple([(step[0], step[1], price) for step, price in zip(sheet.steps, sheet.prices)])
    return ((sheet.base[0], sheet.base[1], sheet.price), directions)


def reading(form, piece):
    """The number of a form at the base of a piece, and its changes by two directions (0 for a missing one)."""
    c, a, b, e = form
    (x, y, price), directions = piece
    low = c + a * x + b * y + e * price
    if not directions:
        return (low, 0, 0)
    x, y, price = directions[0]
    first = a * x + b * y + e * price
    if len(directions) == 1:
        return (low, first, 0)
    x, y, price = directions[1]
    return (low, first, a * x + b * y + e * price)


def _around(base, a, b):
    """The form of a x + b y for the way (x, y) from the base."""
    return (-(a * base[0] + b * base[1]), a, b, 0)


def _bare_forms(base, steps):
    """The bottom of the counts, the forms of their tops, and the forms of the offsets."""
    if not steps:
        return 1, (), (_around(base, 1, 0), _around(base, 0, 1))
    p, q = steps[0]
    if len(steps) == 1:
        return p * p + q * q, (_around(base, p, q),), (_around(base, -q, p),)
    s, t = steps[1]
    side = 1 if cross(steps[0], steps[1]) > 0 else -1
    tops = (_around(base, side * t, -side * s), _around(base, -side * q, side * p))
    return side * cross(steps[0], steps[1]), tops, ()


def _price_form(sheet, many, tops):
    """The form of many times the price of a cell less its price by the sheet."""
    c, a, b = -many * sheet.price, 0, 0
    for top, price in zip(tops, sheet.prices):
        c, a, b = c - top[0] * price, a - top[1] * price, b - top[2] * price
    return (c, a, b, many)


class Gauge:
    """A sheet as forms: tops over many are its counts, offsets are 0 on it, and it is cheaper by spare over many."""

    def __init__(self, sheet):
        many, tops, offsets = _bare_forms(sheet.base, sheet.steps)
        self.many = many
        self.tops = tops
        self.offsets = offsets
        self.spare = _price_form(sheet, many, tops)


def gauges_of(sheets):
    """The list of the Gauges of these sheets."""
    return [Gauge(sheet) for sheet in sheets]


def stays_low(number):
    """Whether a number stays below 0."""
    return number[0] < 0 and number[1] <= 0 and number[2] <= 0


def stays_up(number, least=0):
    """Whether a number stays at least as great as told."""
    return number[0] >= least and number[1] >= 0 and number[2] >= 0


def is_naught(number):
    """Whether a number is 0 and stays so."""
    return number[0] == 0 and number[1] == 0 and number[2] == 0


def is_divided(number, many):
    """Whether a number stays divisible by many."""
    return number[0] % many == 0 and number[1] % many == 0 and number[2] % many == 0


def is_broken(number, many):
    """Whether a number is not divisible by many, and never will be, as its changes are."""
    return number[0] % many != 0 and number[1] % many == 0 and number[2] % many == 0

"""Sheets: prices for infinitely many cells."""

from alljourneys.errors import BadSheet


def cross(one, other):
    """The cross of two shifts; 0 if they lie on one line through (0, 0)."""
    return one[0] * other[1] - one[1] * other[0]


def _are_steps(steps):
    """Whether a sheet can have these steps."""
    if len(steps) > 2 or (0, 0) in steps:
        return False
    return len(steps) < 2 or cross(steps[0], steps[1]) != 0


def _exact(tops, bottom):
    """The tops divided by the bottom; None unless these are integers from 0 on."""
    if any([top % bottom != 0 or top // bottom < 0 for top in tops]):
        return None
    return tuple([top // bottom for top in tops])


class Sheet:
    """Prices for the cells to which steps lead from a base, each taken as often as one likes."""

    def __init__(self, base, price, steps=(), prices=()):
        if not _are_steps(steps):
            raise BadSheet("steps")
        if len(prices) != len(steps):
            raise BadSheet("prices")
        self.base = base
        self.price = price
        self.steps = tuple(steps)
        self.prices = tuple(prices)

    def __eq__(self, other):
        return (isinstance(other, Sheet) and self.base == other.base and self.price == other.price
                and self.steps == other.steps and self.prices == other.prices)

    def __contains__(self, cell):
        return self.counts(cell) is not None

    def counts(self, cell):
        """How often each step is taken to the cell; None if the sheet does not have it."""
        way = (cell[0] - self.base[0], cell[1] - self.base[1])
        if not self.steps:
            return () if way == (0, 0) else None
        first = self.steps[0]
        if len(self.steps) == 2:
            second = self.steps[1]
            return _exact((cross(way, second), cross(first, way)), cross(first, second))
        if cross(first, way) != 0:
            return None
        return _exact((first[0] * way[0] + first[1] * way[1],), first[0] * first[0] + first[1] * first[1])

    def price_at(self, cell):
        """The price of the cell in the sheet; None if the sheet does not have it."""
        counts = self.counts(cell)
        if counts is None:
            return None
        return self.price + sum([count * price for count, price in zip(counts, self.prices)])

    def cell_of(self, counts):
        """The cell to which the counts lead."""
        x = self.base[0] + sum([count * step[0] for count, step in zip(counts, self.steps)])
        y = self.base[1] + sum([count * step[1] for count, step in zip(counts, self.steps)])
        return (x, y)

    def moved(self, shift, price):
        """The sheet with its base moved by the shift, dearer by the price."""
        base = (self.base[0] + shift[0], self.base[1] + shift[1])
        return Sheet(base, self.price + price, self.steps, self.prices)

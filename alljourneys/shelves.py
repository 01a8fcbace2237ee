"""Shelves: many sheets of one spot, of which those with a cell are found quickly."""


class Group:
    """The sheets of a shelf with the same steps for the same prices, by the lattices in which they lie."""

    def __init__(self, steps, prices):
        self.steps = steps
        self.prices = prices
        self._gains = (*prices, 0, 0)
        self._p, self._q = steps[0] if steps else (0, 0)
        # A single step is one of two that are square to each other; the other one is never taken.
        self._s, self._t = steps[1] if len(steps) == 2 else (-self._q, self._p)
        self._size = self._p * self._t - self._q * self._s
        self._rows = {}

    def _place(self, x, y):
        """What a cell has in common with all others of its lattice, and how often each step is taken to it."""
        if self._size == 0:
            return (x, y), 0, 0
        first, second = self._t * x - self._s * y, self._p * y - self._q * x
        if len(self.steps) == 1:
            return (first % self._size, second), first // self._size, 0
        return (first % self._size, second % self._size), first // self._size, second // self._size

    def take_in(self, index, sheet):
        """Add a sheet with the steps of the group."""
        key, first, second = self._place(sheet.base[0], sheet.base[1])
        self._rows.setdefault(key, []).append((index, first, second, sheet.price))

    def best_at(self, x, y):
        """A tuple of the least price of a cell and the index of its sheet; None if no sheet has it."""
        key, first, second = self._place(x, y)
        best = None
        for index, low, low2, price in self._rows.get(key, ()):
            if first >= low and second >= low2:
                found = price + (first - low) * self._gains[0] + (second - low2) * self._gains[1]
                if best is None or found < best[0]:
                    best = (found, index)
        return best

    def has_steps(self, steps, prices):
        """Whether the sheets of the group have all these steps, for at most these prices."""
        for step, price in zip(steps, prices):
            if not any([own == step and cost <= price for own, cost in zip(self.steps, self.prices)]):
                return False
        return True


class Shelf:
    """Sheets by their steps and by the lattices in which they lie."""

    def __init__(self):
        self._groups = {}
        self._fitting = {}

    def take_in(self, index, sheet):
        """Put a sheet on the shelf."""
        key = (sheet.steps, sheet.prices)
        if key not in self._groups:
            self._groups[key] = Group(sheet.steps, sheet.prices)
            self._fitting = {}
        self._groups[key].take_in(index, sheet)

    def best_at(self, cell):
        """A tuple of the least price of a cell and the index of its sheet; None if no sheet has it."""
        best = None
        for group in self._groups.values():
            found = group.best_at(cell[0], cell[1])
            if found is not None and (best is None or found < best):
                best = found
        return best

    def has_for(self, cell, price):
        """Whether some sheet has the cell for at most the price."""
        for group in self._groups.values():
            found = group.best_at(cell[0], cell[1])
            if found is not None and found[0] <= price:
                return True
        return False

    def holder_of(self, steps, prices, cell, price):
        """The index of a sheet that has all that these steps lead to from a cell of this price; None if none has."""
        key = (steps, prices)
        if key not in self._fitting:
            self._fitting[key] = [group for group in self._groups.values() if group.has_steps(steps, prices)]
        for group in self._fitting[key]:
            found = group.best_at(cell[0], cell[1])
            if found is not None and found[0] <= price:
                return found[1]
        return None

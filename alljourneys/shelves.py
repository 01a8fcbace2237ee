"""Shelves: many sheets of one spot, of which those with a cell are found quickly."""

from alljourneys.sheets import cross


def _key(steps, cell):
    """What all cells of one lattice of the steps have in common, beside the tops of the counts of the cell."""
    if not steps:
        return cell, ()
    first = steps[0]
    if len(steps) == 1:
        many = first[0] * first[0] + first[1] * first[1]
        top = first[0] * cell[0] + first[1] * cell[1]
        return (cross(first, cell), top % many), (top // many,)
    many = cross(first, steps[1])
    one, other = cross(cell, steps[1]), cross(first, cell)
    return (one % many, other % many), (one // many, other // many)


class Shelf:
    """Sheets by their steps and by the lattices in which they lie."""

    def __init__(self):
        self._groups = {}
        self._fitting = {}

    def take_in(self, index, sheet):
        """Put a sheet on the shelf."""
        if (sheet.steps, sheet.prices) not in self._groups:
            self._groups[(sheet.steps, sheet.prices)] = {}
            self._fitting = {}
        key, counts = _key(sheet.steps, sheet.base)
        self._groups[(sheet.steps, sheet.prices)].setdefault(key, []).append((index, counts, sheet.price))

    def _fitting_groups(self, sheet):
        """The groups whose sheets have all steps of a sheet, for at most their prices."""
        if (sheet.steps, sheet.prices) not in self._fitting:
            self._fitting[(sheet.steps, sheet.prices)] = [
                (steps, prices) for steps, prices in self._groups
                if all([any([own == step and cost <= price for own, cost in zip(steps, prices)])
                        for step, price in zip(sheet.steps, sheet.prices)])]
        return self._fitting[(sheet.steps, sheet.prices)]

    def best_at(self, cell):
        """A tuple of the least price of a cell and the index of its sheet; None if no sheet has it."""
        best = None
        for (steps, prices), rows in self._groups.items():
            key, counts = _key(steps, cell)
            for index, start, price in rows.get(key, ()):
                if all([count >= least for count, least in zip(counts, start)]):
                    found = price + sum([(count - least) * more for count, least, more in zip(counts, start, prices)])
                    if best is None or (found, index) < best:
                        best = (found, index)
        return best

    def has_for(self, cell, price):
        """Whether some sheet has the cell for at most the price."""
        best = self.best_at(cell)
        return best is not None and best[0] <= price

    def holder_of(self, sheet):
        """The index of a sheet with these steps, perhaps with more, that has a sheet for its prices; or None."""
        for steps, prices in self._fitting_groups(sheet):
            key, counts = _key(steps, sheet.base)
            for index, start, price in self._groups[(steps, prices)].get(key, ()):
                if all([count >= least for count, least in zip(counts, start)]):
                    more = sum([(count - least) * extra for count, least, extra in zip(counts, start, prices)])
                    if price + more <= sheet.price:
                        return index
        return None

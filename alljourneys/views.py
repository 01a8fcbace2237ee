"""What sheets that may take cells of a piece are on it: the numbers that tell which cells they have, and for less."""

from math import gcd, lcm

from alljourneys.forms import Gauge, is_divided, is_naught, stays_low
from alljourneys.growing import TURN, Choice, bend, climbs, fewest, is_mixed, on_strip, parting, parts_needed

# How prices are looked at: as they are; as if the sheet were dearer by any number; or not at all.
EXACT = 0
SLACK = 1
FREE = 2

STILL = (0, 0, 0)


class Kind:
    """What the gauges of sheets with the same steps and prices have in common: their forms without the constants."""

    def __init__(self, sheet):
        gauge = Gauge(sheet)
        self.many = gauge.many
        self.count = len(gauge.tops)
        (_, a, b, _), (_, c, d, _) = gauge.tops + gauge.offsets
        _, e, f, _ = gauge.spare
        self.forms = ((a, b), (c, d), (e, f))

    def row_of(self, index, sheet):
        """What a sheet of the kind is as a taker: its index, and the constants of the forms."""
        first, second, third = [form[0] * sheet.base[0] + form[1] * sheet.base[1] for form in self.forms]
        return (index, -first, -second, -third - self.many * sheet.price)


class Takers:
    """Sheets that may take pieces, by their kinds."""

    def __init__(self):
        self._groups = {}

    def take_in(self, index, sheet):
        """Add a sheet with an index."""
        key = (sheet.steps, sheet.prices)
        if key not in self._groups:
            self._groups[key] = (Kind(sheet), [])
        kind, rows = self._groups[key]
        rows.append(kind.row_of(index, sheet))

    def told(self):
        """The list of tuples of a kind and the list of the rows of its sheets."""
        return list(self._groups.values())


def takers_of(sheets):
    """The list of the sheets as takers, as Takers tells it."""
    takers = Takers()
    for index, sheet in enumerate(sheets):
        takers.take_in(index, sheet)
    return takers.told()


class View:
    """What a taker is on a piece: the tops of its counts, its offsets, and all numbers that must not be below 0."""

    def __init__(self, kind, row, readings, mode):
        self.kind = kind
        self.row = row
        self.index = row[0]
        self.many = kind.many
        self.tops = readings[:kind.count]
        self.offsets = readings[kind.count:2]
        self.spare = readings[2]
        self.numbers = self.tops
        if mode == EXACT:
            self.numbers = (*self.tops, self.spare)
        elif mode == SLACK:
            self.numbers = (*self.tops, (0, self.spare[1], self.spare[2]))

    def sparseness(self):
        """Of how many counts of the piece one makes the taker's counts integers; None if none does."""
        many = self.many
        if many == 1 or not self.tops:
            return 1
        if len(self.tops) == 1:
            low, first, second = self.tops[0]
            common = gcd(many, first, second)
            return many // common if low % common == 0 else None
        (low, first, second), (low2, first2, second2) = self.tops
        # The tops are divisible somewhere if their values are in the lattice of the changes and of many: if adding
        # them to what spans it makes no finer lattice, so no lesser common divisor of the crosses.
        common = gcd(first * second2 - second * first2, many * gcd(many, first, second, first2, second2))
        finer = gcd(low * first2 - low2 * first, low * second2 - low2 * second, many * low, many * low2)
        return many * many // common if finer % common == 0 else None

    def has_base(self):
        """Whether the taker has the base of the piece."""
        for low, _, _ in self.numbers:
            if low < 0:
                return False
        for low, _, _ in self.offsets:
            if low != 0:
                return False
        if self.many > 1:
            for low, _, _ in self.tops:
                if low % self.many != 0:
                    return False
        return True

    def grows(self):
        """Whether nothing that must not be below 0 sinks, and the offsets are and stay 0."""
        for _, first, second in self.numbers:
            if first < 0 or second < 0:
                return False
        for number in self.offsets:
            if not is_naught(number):
                return False
        return True

    def takes(self):
        """Whether the taker has each cell of the piece."""
        for low, first, second in self.numbers:
            if low < 0 or first < 0 or second < 0:
                return False
        for number in self.offsets:
            if not is_naught(number):
                return False
        return self.many == 1 or all([is_divided(number, self.many) for number in self.tops])

    def bends(self):
        """Whether a diagonal may help: what sinks by one direction rises by the other one."""
        if self.offsets:
            return False
        ahead, behind = [], []
        for _, first, second in self.numbers:
            if first < 0:
                ahead.append((-first, second))
                if second <= 0:
                    return False
            elif second < 0:
                behind.append((first, -second))
                if first <= 0:
                    return False
        # On no way may one of them sink wherever the other one rises: then nothing is had far away.
        for one, two in ahead:
            for three, four in behind:
                if one * four > three * two:
                    return False
        return len(ahead) + len(behind) > 0

    def needed(self):
        """Into how many parts each direction is to go until the changes of the taker's counts are integers."""
        return (1, 1) if self.many == 1 else parts_needed(self.tops, self.many)

    def strain(self):
        """About how many pieces are needed until a growing taker takes one."""
        strips = sum([fewest(climbs(number)) for number in self.numbers if number[0] < 0])
        first, second = self.needed()
        return first * second * (1 + strips)

    def bent(self, lattices):
        """The choice by which a bending taker comes nearer to a line beyond which it goes on; lattices by the ways."""
        found = [bend(number, lattices[way_of(number)]) for number in self.numbers if is_mixed(number)]
        return min(found, key=lambda choice: choice.toil)

    def lattice(self):
        """Into how many parts the directions, and their sum, are to go for the taker."""
        sums = [(low, first + second, second) for low, first, second in self.tops]
        return (*self.needed(), parts_needed(sums, self.many)[0])

    def strip_strain(self, times, side):
        """About how many pieces are needed until the taker takes a strip; None if it takes none of it without end."""
        numbers = [on_strip(number, times, side) for number in self.numbers]
        offsets = [on_strip(number, times, side) for number in self.offsets]
        if not all([is_naught(number) for number in offsets]) or any([number[1] < 0 for number in numbers]):
            return None
        if any([stays_low(number) for number in numbers]):
            return None
        parts = parts_needed([on_strip(number, times, side) for number in self.tops], self.many)[0]
        return parts * (1 + max([climbs(number)[0] for number in numbers if number[0] < 0], default=0))

    def _strips(self):
        """The list of tuples (many, side): how often a direction, told by its side, is taken until a number is up."""
        found = []
        for number in self.numbers:
            if number[0] < 0:
                found.extend([(many, side) for side, many in enumerate(climbs(number)) if many is not None])
        return found

    def nearest(self):
        """The node by which a growing taker comes nearer to taking a piece, if as few strips as can be are best."""
        needed = self.needed()
        if needed != (1, 1):
            return parting(needed)
        many, side = min(self._strips())
        return ("peel", many) if side == 0 else TURN

    def nearer(self, views):
        """The choice by which a growing taker comes nearer to taking a piece, beside these views of all takers."""
        needed = self.needed()
        if needed != (1, 1):
            return Choice(self.strain(), parting(needed))
        choices = [Choice(_strips_strain(views, many, side), ("peel", many) if side == 0 else TURN)
                   for many, side in self._strips()]
        return min(choices, key=lambda choice: choice.toil)


def way_of(number):
    """Along which way a number that rises by one direction and sinks by the other one stays the same."""
    step = gcd(number[1], number[2])
    return (abs(number[1]) // step, abs(number[2]) // step)


def lattices_of(bending):
    """For each way along which a number of bending views stays the same, the list of the lattices of such views."""
    lattices = {}
    for view in bending:
        lattice = view.lattice()
        for number in view.numbers:
            if is_mixed(number):
                known = lattices.setdefault(way_of(number), [])
                if lattice not in known:
                    known.append(lattice)
    return lattices


def _strips_strain(views, many, side):
    """About how many pieces are needed for so many strips, judged by the first and the last one of them."""
    strains = [1]
    for times in (0, many - 1):
        found = [view.strip_strain(times, side) for view in views]
        strains.append(min([strain for strain in found if strain is not None], default=1))
    return many * max(strains)


def is_thin(views):
    """Whether those that go on without end have, even together, less than all cells far away in the piece."""
    top, bottom = 0, 1
    for view in views:
        if view.grows() or view.bends():
            many = view.sparseness()
            wider = lcm(bottom, many)
            top, bottom = top * (wider // bottom) + wider // many, wider
    return top < bottom


def views_on(piece, takers, mode):
    """The list of the views of takers that may have cells of the piece, and whether it is one alone that has all."""
    (x, y, price), directions = piece
    dx, dy, dp = directions[0] if directions else STILL
    ex, ey, ep = directions[1] if len(directions) == 2 else STILL
    views = []
    for kind, rows in takers:
        # All this is written out, as it is most of the work of a search.
        (a, b), (c, d), (e, f) = kind.forms
        many = kind.many
        u, u1, u2 = a * x + b * y, a * dx + b * dy, a * ex + b * ey
        v, v1, v2 = c * x + d * y, c * dx + d * dy, c * ex + d * ey
        w, w1, w2 = e * x + f * y + many * price, e * dx + f * dy + many * dp, e * ex + f * ey + many * ep
        # Tops are out where they stay low; offsets are so where they stay high, too.
        u_sinks, u_rises = u1 <= 0 and u2 <= 0, kind.count == 0 and u1 >= 0 and u2 >= 0
        v_sinks, v_rises = v1 <= 0 and v2 <= 0, kind.count < 2 and v1 >= 0 and v2 >= 0
        w_sinks = mode == EXACT and w1 <= 0 and w2 <= 0
        is_up = u1 >= 0 and u2 >= 0 and v1 >= 0 and v2 >= 0
        for row in rows:
            _, first, second, third = row
            if (u_sinks and u + first < 0) or (v_sinks and v + second < 0) or (w_sinks and w + third < 0):
                continue
            if (u_rises and u + first > 0) or (v_rises and v + second > 0):
                continue
            view = View(kind, row, ((u + first, u1, u2), (v + second, v1, v2), (w + third, w1, w2)), mode)
            if is_up and view.takes():
                return [view], True
            if many == 1 or view.sparseness() is not None:
                views.append(view)
    return views, False


def left_of(views):
    """The takers of views, as Takers tells them."""
    left = []
    for view in views:
        if not left or left[-1][0] != view.kind:
            left.append((view.kind, []))
        left[-1][1].append(view.row)
    return left

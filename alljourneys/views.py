"""What takers are on a piece: the numbers that tell which of its cells they have, and for at most their prices."""

from math import gcd, lcm

from alljourneys.forms import is_naught, stays_low
from alljourneys.growing import TURN, Choice, bend, climbs, fewest, is_mixed, on_strip, parting, parts_needed
from alljourneys.takers import EXACT, SLACK, scanned


class View:
    """What a taker is on a piece: the tops of its counts, its offsets, and all numbers that must not be below 0."""

    def __init__(self, kind, row, readings, mode):
        self.taker = (kind, row)
        self.many = kind.many
        self.tops = readings[:kind.count]
        self.offsets = readings[kind.count:2]
        self.spare = readings[2]
        self.numbers = self.tops
        if mode == EXACT:
            self.numbers = (*self.tops, self.spare)
        elif mode == SLACK:
            self.numbers = (*self.tops, (0, self.spare[1], self.spare[2]))

    def sparseness(self):
        """Of how many counts of the piece one makes the taker's counts integers; None if none does."""
        many = self.many
        if many == 1 or not self.tops:
            return 1
        if len(self.tops) == 1:
            low, first, second = self.tops[0]
            common = gcd(many, first, second)
            return many // common if low % common == 0 else None
        (low, first, second), (low2, first2, second2) = self.tops
        # The tops are divisible somewhere if their values are in the lattice of the changes and of many: if adding
        # them to what spans it makes no finer lattice, so no lesser common divisor of the crosses.
        common = gcd(first * second2 - second * first2, many * gcd(many, first, second, first2, second2))
        finer = gcd(low * first2 - low2 * first, low * second2 - low2 * second, many * low, many * low2)
        return many * many // common if finer % common == 0 else None

    def has_base(self):
        """Whether the taker has the base of the piece."""
        for low, _, _ in self.numbers:
            if low < 0:
                return False
        for low, _, _ in self.offsets:
            if low != 0:
                return False
        if self.many > 1:
            for low, _, _ in self.tops:
                if low % self.many != 0:
                    return False
        return True

    def grows(self):
        """Whether nothing that must not be below 0 sinks, and the offsets are and stay 0."""
        for _, first, second in self.numbers:
            if first < 0 or second < 0:
                return False
        for number in self.offsets:
            if not is_naught(number):
                return False
        return True

    def bends(self):
        """Whether a diagonal may help: what sinks by one direction rises by the other one."""
        if self.offsets:
            return False
        ahead, behind = [], []
        for _, first, second in self.numbers:
            if first < 0:
                ahead.append((-first, second))
                if second <= 0:
                    return False
            elif second < 0:
                behind.append((first, -second))
                if first <= 0:
                    return False
        # On no way may one of them sink wherever the other one rises: then nothing is had far away.
        for one, two in ahead:
            for three, four in behind:
                if one * four > three * two:
                    return False
        return len(ahead) + len(behind) > 0

    def needed(self):
        """Into how many parts each direction is to go until the changes of the taker's counts are integers."""
        return (1, 1) if self.many == 1 else parts_needed(self.tops, self.many)

    def strain(self):
        """About how many pieces are needed until a growing taker takes one."""
        strips = sum([fewest(climbs(number)) for number in self.numbers if number[0] < 0])
        first, second = self.needed()
        return first * second * (1 + strips)

    def bent(self, lattices):
        """The choice by which a bending taker comes nearer to a line beyond which it goes on; lattices by the ways."""
        found = [bend(number, lattices[way_of(number)]) for number in self.numbers if is_mixed(number)]
        return min(found, key=lambda choice: choice.toil)

    def lattice(self):
        """Into how many parts the directions, and their sum, are to go for the taker."""
        sums = [(low, first + second, second) for low, first, second in self.tops]
        return (*self.needed(), parts_needed(sums, self.many)[0])

    def strip_strain(self, times, side):
        """About how many pieces are needed until the taker takes a strip; None if it takes none of it without end."""
        numbers = [on_strip(number, times, side) for number in self.numbers]
        offsets = [on_strip(number, times, side) for number in self.offsets]
        if not all([is_naught(number) for number in offsets]) or any([number[1] < 0 for number in numbers]):
            return None
        if any([stays_low(number) for number in numbers]):
            return None
        parts = parts_needed([on_strip(number, times, side) for number in self.tops], self.many)[0]
        return parts * (1 + max([climbs(number)[0] for number in numbers if number[0] < 0], default=0))

    def _strips(self):
        """The list of tuples (many, side): how often a direction, told by its side, is taken until a number is up."""
        found = []
        for number in self.numbers:
            if number[0] < 0:
                found.extend([(many, side) for side, many in enumerate(climbs(number)) if many is not None])
        return found

    def nearest(self):
        """The node by which a growing taker comes nearer to taking a piece, if as few strips as can be are best."""
        needed = self.needed()
        if needed != (1, 1):
            return parting(needed)
        many, side = min(self._strips())
        return ("peel", many) if side == 0 else TURN

    def nearer(self, views):
        """The choice by which a growing taker comes nearer to taking a piece, beside these views of all takers."""
        needed = self.needed()
        if needed != (1, 1):
            return Choice(self.strain(), parting(needed))
        choices = [Choice(_strips_strain(views, many, side), ("peel", many) if side == 0 else TURN)
                   for many, side in self._strips()]
        return min(choices, key=lambda choice: choice.toil)


def way_of(number):
    """Along which way a number that rises by one direction and sinks by the other one stays the same."""
    step = gcd(number[1], number[2])
    return (abs(number[1]) // step, abs(number[2]) // step)


def lattices_of(bending):
    """For each way along which a number of bending views stays the same, the list of the lattices of such views."""
    lattices = {}
    for view in bending:
        lattice = view.lattice()
        for number in view.numbers:
            if is_mixed(number):
                known = lattices.setdefault(way_of(number), [])
                if lattice not in known:
                    known.append(lattice)
    return lattices


def _strips_strain(views, many, side):
    """About how many pieces are needed for so many strips, judged by the first and the last one of them."""
    strains = [1]
    for times in (0, many - 1):
        found = [view.strip_strain(times, side) for view in views]
        strains.append(min([strain for strain in found if strain is not None], default=1))
    return many * max(strains)


def is_thin(views):
    """Whether those that go on without end have, even together, less than all cells far away in the piece."""
    top, bottom = 0, 1
    for view in views:
        if view.grows() or view.bends():
            many = view.sparseness()
            wider = lcm(bottom, many)
            top, bottom = top * (wider // bottom) + wider // many, wider
    return top < bottom


def views_on(piece, takers, mode):
    """The index of a taker that has all of a piece, or None, and the list of the views of those that may have some."""
    index, found = scanned(piece, takers, mode)
    views = [View(kind, row, readings, mode) for kind, row, readings in found]
    return index, [view for view in views if view.many == 1 or view.sparseness() is not None]

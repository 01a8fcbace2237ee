"""The search for a tree that shows that sheets have all cells of a sheet."""

from math import gcd, lcm

from alljourneys.forms import is_divided, is_naught, reading, stays_low, stays_up
from alljourneys.growing import TURN, Choice, bend, climbs, fewest, grown, is_mixed, on_strip, parting, parts_needed
from alljourneys.nodes import parted

# How prices are looked at: as they are; as if the sheet were dearer by any number; or not at all.
EXACT = 0
SLACK = 1
FREE = 2

# How many times farther than needed the second cell is that a hole tells.
FAR = 1000000


class Taker:
    """A sheet of the list, by its index and its gauge, as one that may take pieces."""

    def __init__(self, index, gauge):
        self.index = index
        self.gauge = gauge


class View:
    """What a taker is on a piece: the tops of its counts, its offsets, and all numbers that must not be below 0."""

    def __init__(self, taker, tops, offsets, spare, mode):
        self.taker = taker
        self.many = taker.gauge.many
        self.tops = tops
        self.offsets = offsets
        self.spare = spare
        self.numbers = list(self.tops)
        if mode == EXACT:
            self.numbers.append(self.spare)
        elif mode == SLACK:
            self.numbers.append((0, self.spare[1], self.spare[2]))

    def may_have(self):
        """False only if the taker is too dear for all cells of the piece, or has none of its counts."""
        is_dear = any([stays_low(number) for number in self.numbers[len(self.tops):]])
        return not is_dear and self.sparseness() is not None

    def sparseness(self):
        """Of how many counts of the piece one makes the taker's counts integers; None if none does."""
        many = self.many
        if not self.tops:
            return 1
        if len(self.tops) == 1:
            low, first, second = self.tops[0]
            common = gcd(many, first, second)
            return many // common if low % common == 0 else None
        (low, first, second), (low2, first2, second2) = self.tops
        # The tops are divisible somewhere if their values are in the lattice of the changes and of many: if adding
        # them to what spans it makes no finer lattice, so no lesser common divisor of the crosses.
        common = gcd(first * second2 - second * first2, many * gcd(many, first, second, first2, second2))
        finer = gcd(low * first2 - low2 * first, low * second2 - low2 * second, many * low, many * low2)
        return many * many // common if finer % common == 0 else None

    def has_base(self):
        """Whether the taker has the base of the piece."""
        for low, _, _ in self.numbers:
            if low < 0:
                return False
        for low, _, _ in self.offsets:
            if low != 0:
                return False
        for low, _, _ in self.tops:
            if low % self.many != 0:
                return False
        return True

    def grows(self):
        """Whether nothing that must not be below 0 sinks, and the offsets are and stay 0."""
        for number in self.numbers:
            if number[1] < 0 or number[2] < 0:
                return False
        for number in self.offsets:
            if not is_naught(number):
                return False
        return True

    def takes(self):
        """Whether the taker has each cell of the piece."""
        for number in self.numbers:
            if not stays_up(number):
                return False
        for number in self.tops:
            if not is_divided(number, self.many):
                return False
        return all([is_naught(number) for number in self.offsets])

    def bends(self):
        """Whether a diagonal may help: what sinks by one direction rises by the other one."""
        if self.offsets or not any([is_mixed(number) for number in self.numbers]):
            return False
        if not all([is_mixed(number) or (number[1] >= 0 and number[2] >= 0) for number in self.numbers]):
            return False
        # On no way may one of them sink wherever the other one rises: then nothing is had far away.
        ahead = [(-number[1], number[2]) for number in self.numbers if number[1] < 0]
        behind = [(number[1], -number[2]) for number in self.numbers if number[2] < 0]
        return all([one * four <= three * two for one, two in ahead for three, four in behind])

    def width(self):
        """Into how many parts the piece is to go until the changes of the taker's counts are integers."""
        first, second = parts_needed(self.tops, self.many)
        return first * second

    def cost(self):
        """What the taker of a piece costs more than the sheet at the base."""
        return -(self.spare[0] // self.many)

    def strain(self):
        """About how many pieces are needed until a growing taker takes one."""
        strips = sum([fewest(climbs(number)) for number in self.numbers if number[0] < 0])
        return self.width() * (1 + strips)

    def bent(self, lattices):
        """The choice by which a bending taker comes nearer to a line beyond which it goes on; lattices by the ways."""
        found = [bend(number, lattices[_way(number)]) for number in self.numbers if is_mixed(number)]
        return min(found, key=lambda choice: choice.toil)

    def lattice(self):
        """Into how many parts the directions, and their sum, are to go for the taker."""
        sums = [(low, first + second, second) for low, first, second in self.tops]
        return (*parts_needed(self.tops, self.many), parts_needed(sums, self.many)[0])

    def strip_strain(self, times, side):
        """About how many pieces are needed until the taker takes a strip; None if it takes none of it without end."""
        numbers = [on_strip(number, times, side) for number in self.numbers]
        offsets = [on_strip(number, times, side) for number in self.offsets]
        if not all([is_naught(number) for number in offsets]) or any([number[1] < 0 for number in numbers]):
            return None
        if any([stays_low(number) for number in numbers]):
            return None
        parts = parts_needed([on_strip(number, times, side) for number in self.tops], self.many)[0]
        return parts * (1 + max([climbs(number)[0] for number in numbers if number[0] < 0], default=0))

    def nearer(self, views):
        """The choice by which a growing taker comes nearer to taking a piece, beside these views of all takers."""
        needed = parts_needed(self.tops, self.many)
        if needed != (1, 1):
            return Choice(self.strain(), parting(needed))
        choices = []
        for number in self.numbers:
            many = climbs(number) if number[0] < 0 else (None, None)
            if many[0] is not None:
                choices.append(Choice(_strips_strain(views, many[0], 0), ("peel", many[0])))
            if many[1] is not None:
                choices.append(Choice(_strips_strain(views, many[1], 1), TURN))
        return min(choices, key=lambda choice: choice.toil)


def _way(number):
    """Along which way a number that rises by one direction and sinks by the other one stays the same."""
    step = gcd(number[1], number[2])
    return (abs(number[1]) // step, abs(number[2]) // step)


def _lattices(bending):
    """For each way along which a number of bending views stays the same, the list of the lattices of such views."""
    lattices = {}
    for view in bending:
        lattice = view.lattice()
        for number in view.numbers:
            if is_mixed(number):
                known = lattices.setdefault(_way(number), [])
                if lattice not in known:
                    known.append(lattice)
    return lattices


def _strips_strain(views, many, side):
    """About how many pieces are needed for so many strips, judged by the first and the last one of them."""
    strains = [1]
    for times in (0, many - 1):
        found = [view.strip_strain(times, side) for view in views]
        strains.append(min([strain for strain in found if strain is not None], default=1))
    return many * max(strains)


class Hole:
    """Where a search ended: what the takers left are on a piece, and the way on which they fail.

    The way is the first direction and so many times the second one; it is None if
    they fail at the base.
    """

    def __init__(self, piece, views, times):
        self.piece = piece
        self.views = views
        self.times = times

    def along(self):
        """The shift of the way."""
        directions = self.piece[1]
        x, y, _ = directions[0]
        if len(directions) == 1:
            return (x, y)
        return (x + self.times * directions[1][0], y + self.times * directions[1][1])

    def cell_after(self, steps):
        """The cell to which the way, gone so often, leads."""
        x, y, _ = self.piece[0]
        if self.times is None:
            return (x, y)
        shift = self.along()
        return (x + steps * shift[0], y + steps * shift[1])

    def missed_cells(self):
        """Cells that no taker has: the first one on the way that is surely so, and one far behind it."""
        if self.times is None:
            return [self.cell_after(0)]
        ends = [left_behind(view.numbers, view.offsets, self.times) for view in self.views]
        return [self.cell_after(max(ends, default=0)), self.cell_after(FAR * (max(ends, default=0) + 1))]


def left_behind(numbers, offsets, times):
    """How often a way is to be gone until these numbers tell of no cell any more; None if they never do."""
    for low, first, second in offsets:
        if first + times * second != 0:
            return abs(low) + 1
    for low, first, second in numbers:
        fall = -(first + times * second)
        if fall > 0:
            return max(0, low // fall + 1)
    return None


def _far_times(piece, views):
    """How many times the second direction is to be taken beside the first one, so that no line of steps is met."""
    if len(piece[1]) == 1:
        return 0
    times = 1
    while any([first + times * second == 0 for view in views for _, first, second in view.offsets]):
        times += 1
    return times


def _open_tops(gauge, piece):
    """The tops of a gauge on a piece; None if one stays low, so that no cell is had."""
    tops = []
    for form in gauge.tops:
        top = reading(form, piece)
        if stays_low(top):
            return None
        tops.append(top)
    return tops


def _open_offsets(gauge, piece):
    """The offsets of a gauge on a piece; None if one stays on one side, so that no cell is had."""
    offsets = []
    for form in gauge.offsets:
        low, first, second = reading(form, piece)
        if stays_low((low, first, second)) or stays_low((-low, -first, -second)):
            return None
        offsets.append((low, first, second))
    return offsets


def _views(piece, takers, mode):
    """The views of the takers that may have cells of the piece."""
    views = []
    for taker in takers:
        # Most takers are out by a number or two, so no more is read of them.
        tops = _open_tops(taker.gauge, piece)
        offsets = None if tops is None else _open_offsets(taker.gauge, piece)
        if offsets is not None:
            view = View(taker, tops, offsets, reading(taker.gauge.spare, piece), mode)
            if view.may_have():
                views.append(view)
    return views


def _is_thin(views):
    """Whether those that go on without end have, even together, less than all cells far away in the piece."""
    top, bottom = 0, 1
    for view in views:
        if view.grows() or view.bends():
            many = view.sparseness()
            wider = lcm(bottom, many)
            top, bottom = top * (wider // bottom) + wider // many, wider
    return top < bottom


def _hole_in(piece, views, mode):
    """The Hole in a piece in which the views are thin."""
    while True:
        node, left = _node_of(piece, views)
        if node is None:
            return left
        # How thin the pieces are is, in the middle, how thin the whole was; so one of them is thin, too.
        for part in parted(piece, node)[::-1]:
            inside = _views(part, left, mode)
            if _is_thin(inside):
                piece, views = part, inside
                break


def judged(piece, takers, mode):
    """The node of a piece, and the takers that are left behind it; None and a Hole if there is none."""
    views = _views(piece, takers, mode)
    if _is_thin(views):
        return None, _hole_in(piece, views, mode)
    node, left = _node_of(piece, views)
    if node is None or node[0] == "end" or len(piece[1]) < 2:
        return node, left
    # A hole on a side of the piece would be found at last, but perhaps behind very many pieces.
    for direction in piece[1]:
        side = (piece[0], (direction,))
        inside = _views(side, left, mode)
        if _is_thin(inside):
            return None, _hole_in(side, inside, mode)
    return node, left


def _node_of(piece, views):
    """The node of a piece with these views, and their takers; None and a Hole if there is none."""
    left = [view.taker for view in views]
    taking = [view for view in views if view.takes()]
    if taking:
        return ("end", min(taking, key=lambda view: view.cost()).taker.index), left
    if not any([view.has_base() for view in views]):
        return None, Hole(piece, views, None)
    bending = [view for view in views if view.bends()]
    lattices = _lattices(bending)
    choices = [view.bent(lattices) for view in bending]
    growing = min([view for view in views if view.grows()], key=lambda view: view.strain(), default=None)
    if growing is not None:
        choices.append(growing.nearer(views))
    if not choices:
        return None, Hole(piece, views, _far_times(piece, views))
    return min(choices, key=lambda choice: choice.toil).node, left


def takers_of(gauges):
    """The list of the gauges as takers."""
    return [Taker(index, gauge) for index, gauge in enumerate(gauges)]


def searched_by(piece, takers, mode):
    """A tree over the piece whose ends hold over the takers, looked at so, beside None; or None beside a Hole."""
    return grown(piece, takers, lambda here, left: judged(here, left, mode))


def searched(piece, gauges, mode):
    """A tree over the piece whose ends hold over the gauges, looked at so, beside None; or None beside a Hole."""
    return searched_by(piece, takers_of(gauges), mode)

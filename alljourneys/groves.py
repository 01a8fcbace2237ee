"""Groves: the growing fans from one start, so that the cheapest of them are found quickly."""

from alljourneys.loops import Fronts, loops_of
from alljourneys.shelves import Shelf
from alljourneys.takers import Takers

# So many times a step leads far away, and brings all small remainders back: all numbers up to 60 divide it.
FAR = 9690712164777231700912800

# How many cells ahead are looked at to tell how long a step is of use.
AHEAD = 50

# From how many cells on two steps are of use though they are beaten far away: their trees are large.
LONG_RUN = 3

# How far ahead is looked, by two loops at once, for what is new, and how much of it makes a sheet of two steps of use.
WIDE = (1, 2, 4, 8)
WIDE_GAPS = 6

# How many lines beside a ray are to be new, so that a sheet of two steps is of use for them.
LINES = 2

# Behind so many gaps they are looked for at near cells first, as this is quicker than to find them by a search.
MANY_GAPS = 8

# The shape of a ground is told by the masks of so many spots; those of all would be too many.
SHAPED_SPOTS = 6


class Ground:
    """A net with its loops, and the fronts of those that pass a spot of a mask."""

    def __init__(self, net):
        self.net = net
        self.loops = loops_of(net)
        self._fronts = {}

    def fronts(self, mask):
        """The Fronts of the loops that pass a spot of the mask."""
        if mask not in self._fronts:
            self._fronts[mask] = Fronts([loop for loop in self.loops if loop.mask & mask != 0])
        return self._fronts[mask]

    def shape(self):
        """Which loops are on the fronts of masks, by their links, whatever these cost."""
        ways = [self.fronts(mask).ways for mask in range(1, 1 << min(len(self.net.spots), SHAPED_SPOTS))]
        return [[link.name for link in loop.links]
                for way in ways for rays in way for ray in rays for loop in ray.loops]


class Stem:
    """A trail with up to two loops that can be put in: what a fan is made of. Its index counts those of its spot."""

    def __init__(self, index, trail, loops):
        self.index = index
        self.trail = trail
        self.loops = tuple(loops)
        self.sheet = trail.sheet_with(loops)


def _led(trail, loops, counts):
    """The cell and the price behind a trail and the loops, each so many times as its count says."""
    x, y = trail.cell
    price = trail.price
    for loop, times in zip(loops, counts):
        x, y, price = x + times * loop.shift[0], y + times * loop.shift[1], price + times * loop.price
    return (x, y), price


class Grove:
    """Stems from one start; known tells least prices of near places by (spot, x, y, 0).

    If patience is told, stems of two loops are looked for behind so many gaps that
    were filled by others.
    """

    def __init__(self, ground, start, patience=None):
        self.ground = ground
        self.start = start
        self.patience = patience
        self.seeds = None
        self._gap_count = 0
        self.stems = []
        self.known = {}
        self._shelves = [Shelf() for _ in ground.net.spots]
        self._takers = [Takers() for _ in ground.net.spots]
        self._stems_at = [[] for _ in ground.net.spots]

    def takers_at(self, spot):
        """The stems of a spot as takers."""
        return self._takers[spot].told()

    def has(self, spot, cell, price):
        """Whether some stem of the spot has the cell for at most the price."""
        return self._shelves[spot].has_for(cell, price)

    def holder(self, spot, steps, prices, cell, price):
        """The index of a stem of the spot that has all that these steps lead to from a cell; None if none has."""
        return self._shelves[spot].holder_of(steps, prices, cell, price)

    def best_at(self, spot, cell):
        """A tuple of the least price of a cell and of the stem that has it; None if none has."""
        best = self._shelves[spot].best_at(cell)
        return None if best is None else (best[0], self._stems_at[spot][best[1]])

    def put(self, trail, rays):
        """Add the stem of a trail and loops, or rays."""
        stem = Stem(len(self._stems_at[trail.end]), trail, [trail.loop_of(ray) for ray in rays])
        self._shelves[trail.end].take_in(stem.index, stem.sheet)
        self._takers[trail.end].take_in(stem.index, stem.sheet)
        self._stems_at[trail.end].append(stem)
        self.stems.append(stem)

    def note_gap(self):
        """Note that a gap is to be filled; whether it is time to look for two loops, which is told once in a while."""
        self._gap_count += 1
        return self.patience is not None and self._gap_count % self.patience == 0

    def has_many_gaps(self):
        """Whether so many gaps were found that it is of use to look for them ahead of a search."""
        return self.seeds is None or self.seeds.gap_count > MANY_GAPS

    def _is_new_at(self, trail, loops, counts):
        """Whether no stem has the cell behind the trail and the loops, as often as counts say, for this price."""
        cell, price = _led(trail, loops, counts)
        near = self.known.get((trail.end, *cell, 0))
        return (near is None or near >= price) and not self.has(trail.end, cell, price)

    def is_new(self, trail, loops, times):
        """Whether no stem has the cell behind the trail and so many times each loop for the price of this way."""
        return self._is_new_at(trail, loops, [times for _ in loops])

    def is_wide(self, trail, pair):
        """Whether much of what is near behind the trail and two loops is new."""
        ahead = [(one, two) for one in WIDE for two in WIDE if self._is_new_at(trail, pair, (one, two))]
        return len(ahead) >= WIDE_GAPS

    def goes_on(self, trail, ray, pair):
        """Whether, far away along a ray of the pair, what is beside it is new, too."""
        if not all([trail.meets(loop) for loop in pair]):
            return False
        for times in range(LINES, 0, -1):
            if not self._is_new_at(trail, pair, [FAR if loop.shift == ray.shift else times for loop in pair]):
                return False
        return True

    def is_beaten(self, trail, loops):
        """Whether some stem has the cell far away behind the trail and its loops for less."""
        cell, price = _led(trail, loops, [FAR for _ in loops])
        return self.has(trail.end, cell, price - 1)

    def _run(self, trail, rays):
        """How often rays, all together, lead on to cells that no stem has for this price."""
        times = 1
        while times < AHEAD and self.is_new(trail, rays, times):
            times += 1
        return times

    def _is_of_use(self, trail, rays, enough):
        """Whether no stem has what is far away along the rays for less, or there are enough cells before."""
        return self.is_new(trail, rays, 1) and (not self.is_beaten(trail, rays) or self._run(trail, rays) >= enough)

    def plant(self, trail):
        """Add stems for a trail whose place no stem has for its price: with the loops that lead farthest."""
        fronts = self.ground.fronts(trail.mask)
        found = [pair for pair in fronts.pairs if self._is_of_use(trail, pair, LONG_RUN)]
        if not found:
            rays = [(ray,) for ray in fronts.rays if self.is_new(trail, (ray,), 1)]
            found = [ray for ray in rays if not self.is_beaten(trail, ray)]
            if not found and rays:
                # What is beaten far away is of use for many cells or not at all.
                best = max(rays, key=lambda ray: self._run(trail, ray))
                found = [best] if self._run(trail, best) > 2 else []
        for loops in found if found else [()]:
            self.put(trail, loops)

"""The trees of a paper: what each road makes of each stem is had by stems; where it is not, stems are added."""

from alljourneys.forms import whole
from alljourneys.groves import FAR
from alljourneys.searching import searched_by
from alljourneys.takers import EXACT
from alljourneys.trails import Trail

# Counts at which gaps are looked for first: that is quicker than to find them by a tree.
SAMPLES = (0, 1, 2, 3, 5, 8, 13)

# No trail is made longer than by so many loops.
LONG = 2000

# So many gaps of a sheet of two steps are filled one by one.
PATIENCE = 8


class Shoot:
    """A stem with one more link: a trail from the start with loops, whose sheet is to be had by stems."""

    def __init__(self, grove, stem, link):
        self.grove = grove
        self.stem = stem
        self.link = link
        self.sheet = None
        self._alone = []

    def is_gap(self, counts):
        """Whether no stem has the cell to which the counts lead for its price."""
        cell = self.sheet.cell_of(counts)
        return not self.grove.has(self.link.end, cell, self.sheet.price_at(cell))

    def trail_with(self, counts):
        """The Trail with each loop put in as often as counts say."""
        links = self.stem.trail.links_with(self.stem.loops, counts)
        return Trail(self.grove.start, (*links, self.link))

    def sampled_gap(self):
        """The counts of a gap near the base; None if none is seen."""
        samples = [()]
        for _ in self.stem.loops:
            samples = [(*counts, number) for counts in samples for number in SAMPLES]
        for counts in sorted(samples, key=sum):
            if self.is_gap(counts):
                return counts
        return None

    def _less(self, counts):
        """The counts of a gap with one count less, so that it is easily seen to be one; None if there is none."""
        for at, count in enumerate(counts):
            for less in (0, count // 2, count - 1):
                tried = (*counts[:at], less, *counts[at + 1:])
                if 0 <= less < count and self.is_gap(tried):
                    return tried
        return None

    def lessened(self, counts):
        """Counts of a gap, none of which can be made less by itself in an easy way."""
        best = tuple(counts)
        less = self._less(best)
        while less is not None:
            best = less
            less = self._less(best)
        return best

    def _fill_wide(self, counts, trail):
        """Add a stem of two loops if the gap with these counts, to which the trail leads, is one of many; whether."""
        if len(counts) == 2 and self.grove.is_wide(trail, self.stem.loops):
            self.grove.put(trail, self.stem.loops)
            return True
        self._alone.append(counts)
        is_time = self.grove.note_gap()
        if len(self._alone) < PATIENCE and not is_time:
            return False
        wide = [pair for pair in self.grove.ground.fronts(trail.mask).pairs if self.grove.is_wide(trail, pair)]
        if wide:
            self._put_less(counts, trail, wide[0])
        elif len(counts) == 2 and len(self._alone) >= PATIENCE:
            corner = (min([first for first, _ in self._alone]), min([second for _, second in self._alone]))
            self.grove.put(self.trail_with(corner), self.stem.loops)
        else:
            return False
        self._alone = []
        return True

    def fill(self, counts):
        """Add stems that have, at least, the gap with these counts."""
        base = self.trail_with([0 for _ in counts])
        if not any(counts):
            self.grove.plant(base)
            return
        if sum(counts) > LONG or (len(counts) == 2 and self.is_gap([count + FAR for count in counts])):
            self.grove.put(base, self.stem.loops)
            return
        trail = self.trail_with(counts)
        for pair in self.grove.ground.fronts(trail.mask).pairs:
            if self.grove.is_new(trail, pair, FAR):
                self._put_less(counts, trail, pair)
                return
        if not self._fill_wide(counts, trail):
            self._fill_row(counts, trail)

    def _put_less(self, counts, trail, rays):
        """Add the stem of the trail with these counts and rays; the rays are left out of the trail, if they can be."""
        less = self._trail_without(counts, [ray.shift for ray in rays])
        self.grove.put(less if all([less.meets(ray) for ray in rays]) else trail, rays)

    def _trail_without(self, counts, shifts):
        """The Trail with each loop put in as often as counts say, but for those of these shifts."""
        return self.trail_with([0 if loop.shift in shifts else count for loop, count in zip(self.stem.loops, counts)])

    def _fill_row(self, counts, trail):
        """Add a stem of at most one loop that has the gap with these counts, to which the trail leads."""
        for times in (FAR, 1):
            for loop in self.stem.loops:
                if self.grove.is_new(trail, (loop,), times):
                    self.grove.put(self._trail_without(counts, [loop.shift]), (loop,))
                    return
            for ray in self.grove.ground.fronts(trail.mask).rays:
                if self.grove.is_new(trail, (ray,), times):
                    self.grove.put(trail, (ray,))
                    return
        self.grove.put(trail, ())

    def cover(self):
        """A tree by which stems have the whole sheet; stems are added where they have not."""
        grove = self.grove
        sheet, link = self.stem.sheet, self.link
        cell = (sheet.base[0] + link.shift[0], sheet.base[1] + link.shift[1])
        while True:
            index = grove.holder(link.end, sheet.steps, sheet.prices, cell, sheet.price + link.price)
            if index is not None:
                return (("end", index),)
            self.sheet = sheet.moved(link.shift, link.price)
            counts = self.sampled_gap() if grove.has_many_gaps() else None
            if counts is None:
                tree, hole = searched_by(whole(self.sheet), grove.takers_at(link.end), EXACT)
                if tree is not None:
                    return tree
                counts = self.sheet.counts(hole.missed_cells()[0])
            if grove.seeds is None or not grove.seeds.more():
                self.fill(self.lessened(counts))


def covers_of(grove):
    """A tuple with a tuple of trees for each stem: one for each link from its spot. The grove may grow by it."""
    covers = []
    while len(covers) < len(grove.stems):
        stem = grove.stems[len(covers)]
        links = grove.ground.net.links_from[stem.trail.end]
        covers.append(tuple([Shoot(grove, stem, link).cover() for link in links]))
    return tuple(covers)

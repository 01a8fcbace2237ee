"""Drafts: papers for letters, carried on from each letter at which a tree ceases to hold."""

from alljourneys.bounds import Rows, bound_of
from alljourneys.filling import Shoot
from alljourneys.groves import Ground, Grove
from alljourneys.letters import LetterFan
from alljourneys.loops import Loop
from alljourneys.nets import Net
from alljourneys.rates import is_less
from alljourneys.seeding import seeded_grove
from alljourneys.sheets import Sheet
from alljourneys.trails import Trail

# Papers are made for letters that are above the low end by one over this: by so little that nothing changes between.
FINE = 1000000000000000000000000000000

# A paper is begun anew when it has more than so many times the fans of its beginning, and some more, or was carried
# on so often: it has only rows of fans where, for all greater letters, sheets of two steps are needed.
GROWTH = 2
SPARE = 50
CARRIES = 10

# Behind so many gaps that are filled by rows of fans, sheets of two steps are looked for.
PATIENCE = 16


def _row_at(letter, names):
    """The row of a journey of these names."""
    return letter.row_along([letter.land.road_named(name) for name in names])


def _fan_of(letter, stem):
    """The LetterFan of a stem."""
    names, rounds = stem.trail.names(), stem.trail.rounds_of(stem.loops)
    plain, marked = _row_at(letter, names)
    rows = [_row_at(letter, loop) for _, loop in rounds]
    sheet = Sheet(stem.sheet.base, plain, stem.sheet.steps, [row[0] for row in rows])
    marks = Sheet(stem.sheet.base, marked, stem.sheet.steps, [row[1] for row in rows])
    return LetterFan(letter.land.spots[stem.trail.end], sheet, marks, names, rounds)


class Draft:
    """Fans and trees that hold from the letter on to which they were carried last."""

    def __init__(self, letter, start):
        self.letter = letter
        self.start = start
        self._shape = None
        self._begin()

    def _begin(self):
        """Forget all fans."""
        self._stems = []
        self.fans = []
        self._covers = []
        self._bounds = []
        self._rows = {spot: Rows() for spot in self.letter.land.spots}
        self._limit = None
        self._carries = 0

    def carry_to(self, low):
        """Make the paper hold from this letter on."""
        self._carries += 1
        if self._carries > CARRIES or not self._is_small(self.fans) or not self._carried(low):
            self._shape = None
            self._carried(low)

    def _is_small(self, fans):
        """Whether so many fans are not too many beside those of the beginning."""
        return self._limit is None or len(fans) <= self._limit

    def _carried(self, low):
        """Whether the paper was made to hold from this letter on without too many fans."""
        grove = self._grove_at(low)
        self._enter_fans(grove)
        due = [(number, at) for number, bounds in enumerate(self._bounds) for at, bound in enumerate(bounds)
               if bound is not None and not is_less(low, bound)]
        for number, at in due:
            self._covers[number][at], self._bounds[number][at] = self._covered(grove, number, at)
        while len(self._covers) < len(grove.stems):
            if not self._is_small(grove.stems):
                return False
            number = len(self._covers)
            links = grove.ground.net.links_from[grove.stems[number].trail.end]
            rows = [self._covered(grove, number, at) for at in range(len(links))]
            self._covers.append([tree for tree, _ in rows])
            self._bounds.append([bound for _, bound in rows])
        self._stems = grove.stems
        if self._limit is None:
            self._limit = GROWTH * len(self.fans) + SPARE
        return True

    def reach(self):
        """The greatest letter at which all trees hold; None if they hold for all that are greater."""
        high = None
        for bounds in self._bounds:
            for bound in bounds:
                if is_less(bound, high):
                    high = bound
        return high

    def told_covers(self):
        """The trees of all fans, as a tuple of tuples."""
        return tuple([tuple(trees) for trees in self._covers])

    def _grove_at(self, low):
        """A grove for letters just above low: with the stems that are there, or with the first ones."""
        top, bottom = low[0] * FINE + low[1], low[1] * FINE
        rows = [self.letter.row_along([road]) for road in self.letter.land.roads]
        net = Net(self.letter.land, [bottom * plain + top * marked for plain, marked in rows])
        start = net.spot_numbers[self.start]
        ground = Ground(net)
        if ground.shape() != self._shape:
            # Sheets with other steps than those on the fronts would be beaten only far away, so none is kept.
            self._begin()
            self._shape = ground.shape()
            return seeded_grove(ground, start, PATIENCE)
        grove = Grove(ground, start, PATIENCE)
        links = {link.name: link for link in net.links}
        for stem in self._stems:
            loops = [_loop_on(links, loop) for loop in stem.loops]
            grove.put(Trail(start, [links[link.name] for link in stem.trail.links]), loops)
        return grove

    def _enter_fans(self, grove):
        """Add fans for the stems that have none."""
        for stem in grove.stems[len(self.fans):]:
            fan = _fan_of(self.letter, stem)
            self.fans.append(fan)
            self._rows[fan.spot].enter(fan)

    def _covered(self, grove, number, at):
        """A tree for a stem and one of the links from its end, and up to which letter it holds."""
        stem = grove.stems[number]
        link = grove.ground.net.links_from[stem.trail.end][at]
        tree = Shoot(grove, stem, link).cover()
        self._enter_fans(grove)
        row = self.letter.row_along([self.letter.land.road_named(link.name)])
        end = self.letter.land.spots[link.end]
        return tree, bound_of(self._rows[end], self.fans[number], link.shift, row, tree)


def _loop_on(links, loop):
    """The same loop for other prices of its links."""
    there = [links[link.name] for link in loop.links]
    return Loop(there, loop.shift, sum([link.price for link in there]), loop.mask)

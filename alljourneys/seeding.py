"""The first stems of a grove: those that are cheapest far away, those beside rays, and those of near places."""

from alljourneys.groves import FAR, Grove
from alljourneys.hunts import Hunt, band_beside, pair_course, plain_course, ray_course
from alljourneys.trails import Trail

# So many places are looked at behind so many gaps.
NEAR_STOPS = ((1, 40), (6, 400), (30, 6000))
RAY_STOPS = 60000

# Sheets with other steps may have some of the cells of a lattice far away, but not all; so several are looked at.
SAMPLES = 4


class Seeds:
    """The stems that a grove has first: few of them, as these often do, and more where gaps are found."""

    def __init__(self, grove):
        self.grove = grove
        self._masks = _widest_masks(grove.ground.net, grove.start)
        self.gap_count = 0
        self._level = -1
        for mask in self._masks:
            for pair in grove.ground.fronts(mask).all_pairs():
                _plant_pair(grove, mask, pair)
        if not grove.has(grove.start, (0, 0), 0):
            grove.plant(Trail(grove.start, ()))

    def more(self):
        """Note a gap; whether stems are added for it."""
        self.gap_count += 1
        count = len(self.grove.stems)
        while self._level < len(NEAR_STOPS) and len(self.grove.stems) == count:
            if self._level >= 0 and self.gap_count < NEAR_STOPS[self._level][0]:
                return False
            if self._level < 0:
                self._plant_rays()
            else:
                self._plant_near(NEAR_STOPS[self._level][1])
            self._level += 1
        return len(self.grove.stems) > count

    def _plant_rays(self):
        """Add the stems of one loop that are missing far away."""
        for mask in self._masks:
            for at, rays in enumerate(self.grove.ground.fronts(mask).ways):
                for ray in rays:
                    _plant_ray(self.grove, mask, at, ray)

    def _plant_near(self, limit):
        """Add stems for so many of the nearest places, where they are missing."""
        net = self.grove.ground.net
        near = Hunt(net, self.grove.start, (1 << len(net.spots)) - 1, plain_course(), limit)
        self.grove.known = near.prices
        for stop, price in near.prices.items():
            if not self.grove.has(stop[0], (stop[1], stop[2]), price):
                self.grove.plant(near.trail_to(stop))


def seeded_grove(ground, start, patience=None):
    """The Grove from a start with stems that have, as a rule, most places for their least prices."""
    grove = Grove(ground, start, patience)
    grove.seeds = Seeds(grove)
    return grove


def _widest_masks(net, start):
    """The masks of the spots that are passed on journeys to some spot, without those within others for this spot."""
    found = [{} for _ in net.spots]
    found[start][1 << start] = True
    waiting = [(1 << start, start)]
    while waiting:
        mask, spot = waiting.pop()
        for link in net.links_from[spot]:
            wider = mask | (1 << link.end)
            if wider not in found[link.end]:
                found[link.end][wider] = True
                waiting.append((wider, link.end))
    widest = {}
    for masks in found:
        for mask in masks:
            if not any([mask != other and mask | other == other for other in masks]):
                widest[mask] = True
    return sorted(list(widest))


def _is_missing(grove, hunt, stop):
    """Whether some cells far away behind a stop, in the lattice of the rays of the hunt, are not had for the price."""
    steps, prices = hunt.course.steps, hunt.course.step_prices
    (x, y), price = hunt.far_end(stop, FAR)
    if grove.holder(stop[0], steps, prices, (x, y), price) is not None:
        return False
    # With one step, the second count means nothing.
    (p, q), (s, t) = steps[0], steps[-1]
    for second in range(SAMPLES if len(steps) == 2 else 1):
        for first in range(SAMPLES):
            cell = (x + first * p + second * s, y + first * q + second * t)
            if not grove.has(stop[0], cell, price + first * prices[0] + second * prices[-1]):
                return True
    return False


def _plant_pair(grove, mask, pair):
    """Add the stems of two loops, and of trails within a mask, that are missing far away."""
    net = grove.ground.net
    limit = 4 * len(net.spots) * pair_course(pair).bottom
    hunt = Hunt(net, grove.start, mask, pair_course(pair), limit)
    for stop in hunt.whole_stops():
        if _is_missing(grove, hunt, stop):
            grove.put(hunt.trail_to(stop), pair)


def _plant_ray(grove, mask, at, ray):
    """Add the stems of one loop, and of trails within a mask, that are missing far away on the lines beside it."""
    net = grove.ground.net
    fronts = grove.ground.fronts(mask)
    cells = [stem.trail.cell for stem in grove.stems if ray.shift in stem.sheet.steps]
    hunt = Hunt(net, grove.start, mask, ray_course(fronts, at, ray, band_beside(ray, net, cells)), RAY_STOPS)
    pairs = [pair for pair in fronts.pairs if ray.shift in (pair[0].shift, pair[1].shift)]
    for stop in hunt.whole_stops():
        if _is_missing(grove, hunt, stop):
            trail = hunt.trail_to(stop)
            wide = [pair for pair in pairs if grove.goes_on(trail, ray, pair)]
            for rays in wide if wide else [(ray,)]:
                grove.put(trail, rays)

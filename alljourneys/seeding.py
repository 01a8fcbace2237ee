"""The first stems of a grove: those that are cheapest far away, those beside rays, and those of near places."""

from alljourneys.groves import FAR, Grove
from alljourneys.hunts import Hunt, band_beside, pair_course, plain_course, ray_course

NEAR_STOPS = 6000
RAY_STOPS = 60000

# Sheets with other steps may have some of the cells of a lattice far away, but not all; so several are looked at.
SAMPLES = 4


def seeded_grove(ground, start, patience=None):
    """The Grove from a start with stems that have, as a rule, all places for their least prices."""
    grove = Grove(ground, start, patience)
    whole = (1 << len(ground.net.spots)) - 1
    near = Hunt(ground.net, start, whole, plain_course(), NEAR_STOPS)
    grove.known = near.prices
    masks = _widest_masks(ground.net, start)
    for mask in masks:
        for pair in ground.fronts(mask).all_pairs():
            _plant_pair(grove, mask, pair)
    for mask in masks:
        for at, rays in enumerate(ground.fronts(mask).ways):
            for ray in rays:
                _plant_ray(grove, mask, at, ray)
    for stop, price in near.prices.items():
        if not grove.has(stop[0], (stop[1], stop[2]), price):
            grove.plant(near.trail_to(stop))
    return grove


def _widest_masks(net, start):
    """The masks of the spots that are passed on journeys to some spot, without those within others for this spot."""
    found = [{} for _ in net.spots]
    found[start][1 << start] = True
    waiting = [(1 << start, start)]
    while waiting:
        mask, spot = waiting.pop()
        for link in net.links_from[spot]:
            wider = mask | (1 << link.end)
            if wider not in found[link.end]:
                found[link.end][wider] = True
                waiting.append((wider, link.end))
    widest = {}
    for masks in found:
        for mask in masks:
            if not any([mask != other and mask | other == other for other in masks]):
                widest[mask] = True
    return sorted(list(widest))


def _is_missing(grove, hunt, stop):
    """Whether some cells far away behind a stop, in the lattice of the rays of the hunt, are not had for the price."""
    far = hunt.far_sheet(stop, FAR)
    if grove.holder(stop[0], far) is not None:
        return False
    samples = [()]
    for _ in far.steps:
        samples = [(*counts, number) for counts in samples for number in range(SAMPLES)]
    cells = [far.cell_of(counts) for counts in samples]
    return any([not grove.has(stop[0], cell, far.price_at(cell)) for cell in cells])


def _plant_pair(grove, mask, pair):
    """Add the stems of two loops, and of trails within a mask, that are missing far away."""
    net = grove.ground.net
    limit = 4 * len(net.spots) * pair_course(pair).bottom
    hunt = Hunt(net, grove.start, mask, pair_course(pair), limit)
    for stop in hunt.whole_stops():
        if _is_missing(grove, hunt, stop):
            grove.put(hunt.trail_to(stop), pair)


def _plant_ray(grove, mask, at, ray):
    """Add the stems of one loop, and of trails within a mask, that are missing far away on the lines beside it."""
    net = grove.ground.net
    fronts = grove.ground.fronts(mask)
    cells = [stem.trail.cell for stem in grove.stems if ray.shift in stem.sheet.steps]
    hunt = Hunt(net, grove.start, mask, ray_course(fronts, at, ray, band_beside(ray, net, cells)), RAY_STOPS)
    pairs = [pair for pair in fronts.pairs if ray.shift in (pair[0].shift, pair[1].shift)]
    for stop in hunt.whole_stops():
        if _is_missing(grove, hunt, stop):
            trail = hunt.trail_to(stop)
            wide = [pair for pair in pairs if grove.goes_on(trail, ray, pair)]
            for rays in wide if wide else [(ray,)]:
                grove.put(trail, rays)

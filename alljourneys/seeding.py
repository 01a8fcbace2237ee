"""The first stems of a grove: those that are cheapest far away, those beside rays, and those of near places."""

from alljourneys.groves import FAR, Grove
from alljourneys.hunts import Hunt, band_beside, pair_course, plain_course, ray_course
from alljourneys.sheets import Sheet

NEAR_STOPS = 6000
RAY_STOPS = 4000

# Sheets with other steps may have some of the cells of a lattice far away, but not all; so several are looked at.
SAMPLES = 4


def seeded_grove(ground, start, patience=None):
    """The Grove from a start with stems that have, as a rule, all places for their least prices."""
    grove = Grove(ground, start, patience)
    whole = (1 << len(ground.net.spots)) - 1
    near = Hunt(ground.net, start, whole, plain_course(), NEAR_STOPS)
    grove.known = near.prices
    masks = _widest_masks(ground.net, start)
    for mask in masks:
        for pair in ground.fronts(mask).all_pairs():
            _plant_pair(grove, mask, pair)
    for mask in masks:
        for at, rays in enumerate(ground.fronts(mask).ways):
            for ray in rays:
                _plant_ray(grove, mask, at, ray)
    for stop, price in near.prices.items():
        if not grove.has(stop[0], (stop[1], stop[2]), price):
            grove.plant(near.trail_to(stop))
    return grove


def _widest_masks(net, start):
    """The masks of the spots that are passed on journeys to some spot, without those within others for this spot."""
    found = [{} for _ in net.spots]
    found[start][1 << start] = True
    waiting = [(1 << start, start)]
    while waiting:
        mask, spot = waiting.pop()
        for link in net.links_from[spot]:
            wider = mask | (1 << link.end)
            if wider not in found[link.end]:
                found[link.end][wider] = True
                waiting.append((wider, link.end))
    widest = {}
    for masks in found:
        for mask in masks:
            if not any([mask != other and mask | other == other for other in masks]):
                widest[mask] = True
    return sorted(list(widest))


def _is_missing(grove, trail, loops):
    """Whether some cells far away behind the trail, in the lattice of the loops, are not had for the price."""
    near = trail.sheet_with(loops)
    base = near.cell_of([FAR for _ in loops])
    far = Sheet(base, near.price_at(base), near.steps, near.prices)
    if grove.holder(trail.end, far) is not None:
        return False
    samples = [()]
    for _ in loops:
        samples = [(*counts, number) for counts in samples for number in range(SAMPLES)]
    cells = [far.cell_of(counts) for counts in samples]
    return any([not grove.has(trail.end, cell, far.price_at(cell)) for cell in cells])


def _plant_all(grove, hunt, loops):
    """Add the stems of these loops and the trails of a hunt that are missing far away."""
    for stop in hunt.whole_stops():
        trail = hunt.trail_to(stop)
        if _is_missing(grove, trail, loops):
            grove.put(trail, loops)


def _plant_pair(grove, mask, pair):
    """Add the stems of two loops, and of trails within a mask, that are missing far away."""
    net = grove.ground.net
    limit = 4 * len(net.spots) * pair_course(pair).bottom
    _plant_all(grove, Hunt(net, grove.start, mask, pair_course(pair), limit), pair)


def _plant_ray(grove, mask, at, ray):
    """Add the stems of one loop, and of trails within a mask, that are missing far away on the lines beside it."""
    net = grove.ground.net
    cells = [stem.trail.cell for stem in grove.stems if ray.shift in stem.sheet.steps]
    course = ray_course(grove.ground.fronts(mask), at, ray, band_beside(ray, net, cells))
    _plant_all(grove, Hunt(net, grove.start, mask, course, RAY_STOPS), (ray,))

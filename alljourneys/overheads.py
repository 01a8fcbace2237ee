"""How far least prices are from the measures of their cells."""

from math import gcd, lcm

from alljourneys.checks import is_cell, is_integer, require_spot
from alljourneys.comparing import dearer
from alljourneys.edges import Around, around
from alljourneys.errors import NotAround
from alljourneys.fans import is_sheet
from alljourneys.forms import gauges_of
from alljourneys.lattices import Lattice, spanned
from alljourneys.measures import edge_at, measure
from alljourneys.rates import is_ratio, lowest, times_line
from alljourneys.sheets import Sheet, cross
from alljourneys.trees import tree_over


class Overheads:
    """By how much least prices are above the measures, at least and at most, and trees that prove it."""

    def __init__(self, bottom, tiles, least, most, low, high, lows, highs):
        self.bottom = bottom
        self.tiles = tiles
        self.least = least
        self.most = most
        self.low = low
        self.high = high
        self.lows = lows
        self.highs = highs


def _paper_of(atlas, start, spot):
    """The Around of the map; the errors of the spots, and NotAround."""
    require_spot(atlas.land, start)
    require_spot(atlas.land, spot)
    paper = around(atlas.land)
    if not isinstance(paper, Around):
        raise NotAround()
    return paper


def _times(sheets, bottom):
    """The sheets times bottom."""
    return [Sheet(sheet.base, bottom * sheet.price, sheet.steps, [bottom * price for price in sheet.prices])
            for sheet in sheets]


def _scaled(paper, cell, bottom):
    """Bottom times the measure of a cell; bottom is a multiple of all bottoms of the edges that matter."""
    edge = paper.edges[edge_at(paper, cell)]
    return bottom * times_line(edge.line, cell) // edge.bottom


def _first_on(lattice, way):
    """The first cell of the lattice in the direction of a shift."""
    many = gcd(way[0], way[1])
    step = (way[0] // many, way[1] // many)
    times = 1
    while lattice.remainder((times * step[0], times * step[1])) != (0, 0):
        times += 1
    return (times * step[0], times * step[1])


def _bases(lattice, cell, one, two):
    """The cells of the lattice, moved by the cell, between the steps: less than one of each of them from (0, 0) on."""
    size = cross(one, two)
    corners = [(0, 0), one, two, (one[0] + two[0], one[1] + two[1])]
    found = []
    for x in range(min([x for x, _ in corners]), max([x for x, _ in corners]) + 1):
        for y in range(min([y for _, y in corners]), max([y for _, y in corners]) + 1):
            if 0 <= cross((x, y), two) < size and 0 <= cross(one, (x, y)) < size:
                if lattice.remainder((x - cell[0], y - cell[1])) == (0, 0):
                    found.append((x, y))
    return found


def _tiles_of(paper, lattice, cell, bottom, ends):
    """The tiles between the shifts of neighbouring rounds: each cell of the lattice, moved by the cell, is in some."""
    tiles = []
    for first, second in ends:
        steps = (_first_on(lattice, first), _first_on(lattice, second))
        prices = [_scaled(paper, step, bottom) for step in steps]
        for base in _bases(lattice, cell, steps[0], steps[1]):
            tiles.append(Sheet(base, _scaled(paper, base, bottom), steps, prices))
    return tuple(tiles)


def overheads(atlas, start, spot):
    """How far the least prices from start to the places of a spot are from the measures of their cells."""
    paper = _paper_of(atlas, start, spot)
    roads = {road.name: road for road in atlas.land.roads}
    ends = []
    for edge in paper.edges:
        rounds = [[roads[name].shift for name in journey] for journey in (edge.first, edge.second)]
        ends.append([(sum([x for x, _ in shifts]), sum([y for _, y in shifts])) for shifts in rounds])
    sheets = atlas.sheets(start, spot)
    bottom = 1
    for edge in paper.edges:
        bottom = lcm(bottom, edge.bottom)
    # Rounds lead to all sides, so all that is reached is one cell, moved by all that steps make, forth and back.
    cell = sheets[0].base
    shifts = [step for sheet in sheets for step in sheet.steps]
    shifts.extend([(sheet.base[0] - cell[0], sheet.base[1] - cell[1]) for sheet in sheets])
    tiles = _tiles_of(paper, Lattice(spanned(shifts)), cell, bottom, ends)
    priced = _times(sheets, bottom)
    below, above = dearer(priced, tiles), dearer(tiles, priced)
    return Overheads(bottom, tiles, lowest(-below.most, bottom), lowest(above.most, bottom), below.cell, above.cell,
                     below.trees, above.trees)


def _is_tile(paper, value, bottom):
    """Whether any value is a sheet of two steps that has all of its cells for bottom times their measures."""
    if not is_sheet(value) or len(value.steps) != 2:
        return False
    # A measure never is more than the measures of what adds up to its cell; if it is as much here, it always is.
    cells = [value.base, value.steps[0], value.steps[1], value.cell_of((1, 1))]
    prices = [value.price, value.prices[0], value.prices[1], value.price_at(cells[3])]
    for cell, price in zip(cells, prices):
        top, under = measure(paper, cell)
        if top * bottom != price * under:
            return False
    return True


def _all_hold(sheets, price, others, trees):
    """Whether any value is a tuple of a tree for each sheet that holds for it, dearer by the price, over the others."""
    if not isinstance(trees, tuple) or len(trees) != len(sheets):
        return False
    gauges = gauges_of(others)
    return all([tree_over(sheet.moved((0, 0), price), gauges, tree) for sheet, tree in zip(sheets, trees)])


def _has_just(atlas, paper, ends, cell, ratio):
    """Whether the least price at a cell is just its measure and the ratio."""
    if not is_cell(cell):
        return False
    price = atlas.least_price((ends[0], 0, 0), (ends[1], cell[0], cell[1]))
    top, bottom = measure(paper, cell)
    return price is not None and (price * bottom - top) * ratio[1] == ratio[0] * bottom


def overheads_hold(atlas, start, spot, value):
    """Whether any value is an Overheads that is right."""
    paper = _paper_of(atlas, start, spot)
    if not isinstance(value, Overheads) or not is_integer(value.bottom) or value.bottom < 1:
        return False
    bottom, tiles = value.bottom, value.tiles
    if not all([is_ratio(ratio) and bottom % ratio[1] == 0 for ratio in (value.least, value.most)]):
        return False
    if not isinstance(tiles, tuple) or not all([_is_tile(paper, tile, bottom) for tile in tiles]):
        return False
    if not _has_just(atlas, paper, (start, spot), value.low, value.least):
        return False
    if not _has_just(atlas, paper, (start, spot), value.high, value.most):
        return False
    priced = _times(atlas.sheets(start, spot), bottom)
    lower, upper = bottom // value.least[1] * value.least[0], bottom // value.most[1] * value.most[0]
    return _all_hold(priced, -lower, tiles, value.lows) and _all_hold(tiles, upper, priced, value.highs)

import random
import unittest
from fractions import Fraction
from math import gcd

from alljourneys.atlases import Atlas
from alljourneys.edges import Apart, Around, Edge, OneSided, around, around_holds
from alljourneys.errors import BadNumber, NoSpot, NotAround
from alljourneys.maps import Map
from alljourneys.measures import Falling, Fastest, Plane, edge_at, fastest, measure, plane
from alljourneys.overheads import Overheads, overheads, overheads_hold
from alljourneys.sheets import Sheet

from atlas_lands import EDGES, some_land
from helpers import ODD_VALUES, Odd
from lands import error_of, prices_from
from test_papers import tree_is_right

STAR = Map("spot a\nroad e a a 1 0 2\nroad n a a 0 1 3\nroad w a a -1 0 4\nroad s a a 0 -1 5\nroad z a a 1 1 9")


def cycles_of(land):
    """All rounds that pass no spot twice: tuples (journey, shift, price), from each of their spots."""
    found = []
    for start in land.spots:
        waiting = [((), start, (0, 0), 0, {start})]
        while waiting:
            journey, here, (x, y), price, seen = waiting.pop()
            for road in land.roads_from(here):
                there = ((*journey, road.name), (x + road.shift[0], y + road.shift[1]), price + road.price)
                if road.end == start:
                    found.append(there)
                elif road.end not in seen:
                    waiting.append((there[0], road.end, there[1], there[2], seen | {road.end}))
    return found


def ends_from(land, start):
    ends = {start}
    for _ in land.spots:
        ends |= {road.end for road in land.roads if road.start in ends}
    return ends


def kind_of(land):
    """Which of the three can be told of a map."""
    if any(ends_from(land, spot) != set(land.spots) for spot in land.spots):
        return Apart
    shifts = [shift for _, shift, _ in cycles_of(land)]
    lines = [(1, 0)] + [line for x, y in shifts if (x, y) != (0, 0) for line in ((-y, x), (y, -x), (x, y))]
    return OneSided if any(all(p * x + q * y >= 0 for x, y in shifts) for p, q in lines) else Around


def sums(land, journey):
    roads = [land.road_named(name) for name in journey]
    ok = roads and all(one.end == two.start for one, two in zip(roads, roads[1:] + roads[:1]))
    return ok, (sum(r.shift[0] for r in roads), sum(r.shift[1] for r in roads)), sum(r.price for r in roads)


def edge_is_right(land, edge):
    worth = dict(zip(land.spots, edge.worths, strict=True))
    ends = [sums(land, edge.first), sums(land, edge.second)]
    (_, (x, y), v), (_, (s, t), w) = ends
    p, q = edge.line
    return (all(ok for ok, _, _ in ends) and x * t - y * s > 0 and edge.bottom >= 1
            and p * x + q * y == edge.bottom * v and p * s + q * t == edge.bottom * w
            and all(p * r.shift[0] + q * r.shift[1] + worth[r.end] - worth[r.start] <= edge.bottom * r.price
                    for r in land.roads))


def told_is_right(land, told):
    """Judge what around tells by the sentences of the document."""
    if isinstance(told, Apart):
        return told.start in land.spots and told.end in land.spots and told.end not in ends_from(land, told.start)
    if isinstance(told, OneSided):
        worth = dict(zip(land.spots, told.worths, strict=True))
        p, q = told.line
        return (p, q) != (0, 0) and all(p * r.shift[0] + q * r.shift[1] + worth[r.end] - worth[r.start] >= 0
                                        for r in land.roads)
    if len(told.edges) < 3 or not all(edge_is_right(land, edge) for edge in told.edges):
        return False
    once = 0
    for one, two in zip(told.edges, told.edges[1:] + told.edges[:1]):
        (_, (x, y), v), (_, (s, t), w) = sums(land, one.second), sums(land, two.first)
        if (x * w, y * w) != (s * v, t * v):
            return False
        once += sums(land, one.first)[1][1] <= 0 < y
    return once == 1


def hull_measure(land, cell):
    """The measure of a cell from all rounds: the least price by two rounds between which it lies."""
    rows = [row for row in cycles_of(land) if row[1] != (0, 0)]
    best = None
    for _, (x, y), v in rows:
        for _, (s, t), w in rows:
            size = x * t - y * s
            if size > 0:
                one, two = Fraction(cell[0] * t - cell[1] * s, size), Fraction(x * cell[1] - y * cell[0], size)
                if one >= 0 and two >= 0 and (best is None or one * v + two * w < best):
                    best = one * v + two * w
    return best


def is_ratio(value):
    return type(value) is tuple and len(value) == 2 and value[1] > 0 and gcd(*value) == 1


class AroundTest(unittest.TestCase):
    def lands(self, count):
        chance = random.Random(51)
        yield from EDGES
        yield STAR
        for _ in range(count):
            yield some_land(chance, chance.randint(1, 6), chance.randint(0, 16), chance.choice((1, 2)), 12)
            yield some_land(chance, chance.randint(1, 3), chance.randint(3, 10), 2, 12, chance.random() < 0.4)

    def test_kinds(self):
        """[51] [52] Just one of the three can be told, and it is told rightly."""
        seen = {}
        for land in self.lands(120):
            told = around(land)
            self.assertIs(type(told), kind_of(land))
            self.assertTrue(told_is_right(land, told))
            self.assertIs(around_holds(land, told), True)
            seen[type(told)] = seen.get(type(told), 0) + 1
        self.assertTrue(all(count > 20 for count in seen.values()) and len(seen) == 3)

    def test_edges_of_the_document(self):
        """[51] No roads; rounds of the shift (0, 0); rounds along a line; an edge that begins on the first axis."""
        for text, kind in (("spot a", OneSided), ("spot a\nspot b", Apart), ("spot a\nspot b\nroad r a b 0 0 1", Apart),
                           ("spot a\nroad r a a 0 0 1", OneSided),
                           ("spot a\nroad r a a 1 2 1\nroad s a a -2 -4 1", OneSided),
                           ("spot a\nroad r a a 1 0 1\nroad s a a -1 0 1\nroad t a a 0 1 1", OneSided),
                           ("spot a\nroad r a a 1 0 1\nroad s a a -1 1 1\nroad t a a -1 -1 1", Around)):
            land = Map(text)
            self.assertIs(type(around(land)), kind)
            self.assertTrue(told_is_right(land, around(land)) and around_holds(land, around(land)))

    def test_bounds(self):
        """[50] [52] No least price, times the bottom of an edge, is below what its line and its worths promise."""
        chance = random.Random(52)
        for land in self.lands(25):
            told = around(land)
            if not isinstance(told, Around):
                continue
            numbers = {spot: number for number, spot in enumerate(land.spots)}
            start = chance.choice(land.spots)
            for edge in told.edges:
                self.assertEqual(len(edge.worths), len(land.spots))
                for (spot, x, y), price in prices_from(land, (start, 0, 0), 15).items():
                    gain = edge.line[0] * x + edge.line[1] * y + edge.worths[numbers[spot]] - edge.worths[numbers[start]]
                    self.assertLessEqual(gain, edge.bottom * price)

    def test_values(self):
        """[50] The classes keep the very values that they are created from."""
        for kind, names in ((Apart, ("start", "end")), (OneSided, ("line", "worths")), (Around, ("edges",)),
                            (Edge, ("first", "second", "line", "bottom", "worths"))):
            values = [object() for _ in names]
            made = kind(*values)
            self.assertTrue(all(getattr(made, name) is value for name, value in zip(names, values)))

    def test_free(self):
        """[53] All right ways are taken for right: turned edges, other worths, multiples, more edges."""
        told = around(STAR)
        edges = told.edges
        for k in range(4):
            self.assertTrue(around_holds(STAR, Around(edges[k:] + edges[:k])))
        many = tuple(Edge(edge.first * 3, edge.second * 2, (6 * edge.line[0], 6 * edge.line[1]), 6 * edge.bottom,
                          (edge.worths[0] + 7,)) for edge in edges)
        self.assertTrue(around_holds(STAR, Around(many)))
        corner = Map(STAR.text + "road y a a 1 1 5\n")
        two = [edge for edge in edges if edge.line[0] > 0 and edge.line[1] > 0][0]
        at = edges.index(two)
        parted = (Edge(two.first, ("y",), two.line, two.bottom, (0,)), Edge(("y",), two.second, two.line, two.bottom, (0,)))
        self.assertTrue(around_holds(corner, Around(edges[:at] + parted + edges[at + 1:])))
        self.assertTrue(around_holds(corner, Around(edges)))
        self.assertFalse(around_holds(STAR, Around(edges + edges)))
        self.assertFalse(around_holds(STAR, Around(edges[::-1])))
        self.assertFalse(around_holds(STAR, Around(edges[:-1])))
        land = Map("spot a\nspot b\nroad r a b 1 0 1\nroad s b a 2 0 1")
        self.assertTrue(around_holds(land, OneSided((5, 0), (0, -5))))
        self.assertTrue(around_holds(land, OneSided((5, 3), (0, 10))))
        self.assertFalse(around_holds(land, OneSided((5, 3), (0, 11))))
        self.assertFalse(around_holds(land, OneSided((-5, 3), (0, 0))))

    def test_wrong(self):
        """[53] Any values, also within."""
        told = around(STAR)
        edge = told.edges[0]
        parts = (edge.first, edge.second, edge.line, edge.bottom, edge.worths)
        wrong = [Apart("a", "a"), Apart("a", "b"), OneSided((1, 0), (0,)), OneSided((0, 0), (0,)), Around(list(told.edges))]
        for at in range(5):
            for value in ODD_VALUES + (("z",), ("e", "z"), ["e"], [1, 2], (True, 2), (1, 2, 3), (0, 0), ("n",), (5,), (None,),
                                       (True,), 10 ** 50, (10 ** 50, 1)):
                new = parts[:at] + (value,) + parts[at + 1:]
                same = at == 4 and type(value) is tuple and len(value) == 1 and type(value[0]) is int
                if not same and not (type(value) is type(parts[at]) and value == parts[at]):
                    wrong.append(Around((Edge(*new),) + told.edges[1:]))
        wrong += [Around((value,) + told.edges[1:]) for value in ODD_VALUES] + [Around(value) for value in ODD_VALUES]
        wrong += [Apart(value, "a") for value in ODD_VALUES] + list(ODD_VALUES)
        for value in wrong:
            self.assertIs(around_holds(STAR, value), False, vars(value) if hasattr(value, "__dict__") else value)
        line = Map("spot a\nroad r a a 1 0 1")
        for value in ODD_VALUES + ((1,), [1, 0], (True, 0), (0, 0), (1, 0, 0), (-1, 0)):
            self.assertFalse(around_holds(line, OneSided(value, (0,))))
        for value in ODD_VALUES + ((), (0, 0), [0], (True,), (None,)):
            self.assertFalse(around_holds(line, OneSided((1, 0), value)))
        self.assertTrue(around_holds(line, OneSided((1, 0), (4,))))
        parted = Map("spot a\nspot b\nroad r a b 0 0 1")
        self.assertTrue(around_holds(parted, Apart("b", "a")))
        for value in (Apart("a", "b"), Apart("b", "b"), Apart("b", None), Apart(Odd(), "a"), OneSided((1, 0), (0, 0))):
            self.assertFalse(around_holds(parted, value))
        kept = object()
        self.assertIs(Edge(1, 2, 3, 4, kept).worths, kept)


class MeasureTest(unittest.TestCase):
    def test_measure(self):
        """[54] The measure is that of two rounds between which a cell lies; the least index of an edge that gives it."""
        chance = random.Random(54)
        done = 0
        while done < 12:
            land = some_land(chance, chance.randint(1, 3), 8, 2, 12)
            paper = around(land)
            if not isinstance(paper, Around):
                continue
            done += 1
            for _ in range(25):
                size = chance.choice((3, 30, 10 ** 60))
                cell = (chance.randint(-size, size), chance.randint(-size, size))
                told = measure(paper, cell)
                self.assertTrue(is_ratio(told))
                self.assertEqual(Fraction(*told), hull_measure(land, cell))
                rates = [Fraction(edge.line[0] * cell[0] + edge.line[1] * cell[1], edge.bottom) for edge in paper.edges]
                self.assertEqual(edge_at(paper, cell), rates.index(max(rates)))
            self.assertEqual((measure(paper, (0, 0)), edge_at(paper, (0, 0))), ((0, 1), 0))
        paper = around(STAR)
        self.assertEqual([measure(paper, cell) for cell in ((3, 0), (0, 3), (-3, 0), (0, -3), (2, -5))],
                         [(6, 1), (9, 1), (12, 1), (15, 1), (29, 1)])

    def test_plane(self):
        """[55] The least rests from a start, or a ring with a rest below 0."""
        chance = random.Random(55)
        kinds = {Plane: 0, Falling: 0}
        for _ in range(150):
            land = some_land(chance, chance.randint(1, 5), chance.randint(0, 12), 2, 12)
            line, bottom = (chance.randint(-4, 4), chance.randint(-4, 4)), chance.choice((1, 2, 3, 10 ** 40))
            start = chance.choice(land.spots)

            def rest(journey):
                roads = [land.road_named(name) for name in journey]
                return sum(bottom * r.price - line[0] * r.shift[0] - line[1] * r.shift[1] for r in roads)

            def walked(journey, here):
                for name in journey:
                    self.assertEqual(land.road_named(name).start, here)
                    here = land.road_named(name).end
                return here

            told = plane(land, start, line, bottom)
            kinds[type(told)] += 1
            reached = ends_from(land, start)
            rounds = [row for row in cycles_of(land) if land.road_named(row[0][0]).start in reached]
            falls = any(rest(journey) < 0 for journey, _, _ in rounds)
            self.assertEqual(isinstance(told, Falling), falls)
            if falls:
                here = walked(told.journey, start)
                self.assertTrue(told.ring and walked(told.ring, here) == here and rest(told.ring) < 0)
                continue
            self.assertEqual((len(told.numbers), len(told.journeys)), (len(land.spots),) * 2)
            worth = dict(zip(land.spots, told.numbers))
            self.assertLessEqual(worth[start], 0)
            for spot, number, journey in zip(land.spots, told.numbers, told.journeys):
                self.assertEqual(number is None, spot not in reached)
                if number is None:
                    self.assertIsNone(journey)
                else:
                    self.assertEqual((walked(journey, start), rest(journey)), (spot, number))
                    for road in land.roads_from(spot):
                        self.assertLessEqual(worth[road.end], number + rest([road.name]))
        self.assertTrue(all(kinds.values()))

    def test_plane_edges(self):
        """[55] Only what is reached from start is asked for; wrong bottoms and spots."""
        land = Map("spot a\nspot b\nspot c\nroad r a b 1 0 5\nroad s c c 1 0 1")
        told = plane(land, "a", (3, 0), 1)
        self.assertEqual((told.numbers, told.journeys), ((0, 2, None), ((), ("r",), None)))
        self.assertIsInstance(plane(land, "c", (3, 0), 1), Falling)
        self.assertEqual(plane(land, "c", (1, 0), 1).numbers, (None, None, 0))
        self.assertEqual(plane(land, "a", (0, 0), 10 ** 300).numbers, (0, 5 * 10 ** 300, None))
        for value in (0, -1, True, None, "1", 1.0, (1,)):
            self.assertEqual(error_of(plane, land, "a", (1, 0), value), (BadNumber, "bottom", value))
            self.assertEqual(error_of(plane, land, "z", (1, 0), value), (NoSpot, "z"))

    def test_fastest(self):
        """[56] The greatest ratio over all rounds."""
        chance = random.Random(56)
        for _ in range(100):
            land = some_land(chance, chance.randint(1, 6), chance.randint(0, 14), 2, 12)
            line = chance.choice(((0, 0), (1, 0), (chance.randint(-9, 9), chance.randint(-9, 9)), (10 ** 50, -3)))
            told = fastest(land, line)
            rounds = cycles_of(land)
            if not rounds:
                self.assertIsNone(told)
                continue
            self.assertIsInstance(told, Fastest)
            top, bottom = told.ratio
            self.assertTrue(is_ratio(told.ratio))
            rates = [Fraction(line[0] * x + line[1] * y, price) for _, (x, y), price in rounds]
            self.assertEqual(Fraction(top, bottom), max(rates))
            ok, (x, y), price = sums(land, told.ring)
            self.assertTrue(ok and Fraction(line[0] * x + line[1] * y, price) == max(rates))
            worth = dict(zip(land.spots, told.worths, strict=True))
            for r in land.roads:
                gain = bottom * (line[0] * r.shift[0] + line[1] * r.shift[1])
                self.assertLessEqual(gain + worth[r.end] - worth[r.start], top * r.price)
        self.assertIsNone(fastest(Map("spot a\nspot b\nroad r a b 1 1 1"), (1, 0)))
        self.assertEqual(fastest(Map("spot a\nroad r a a 0 0 1"), (1, 0)).ratio, (0, 1))


def times(sheet, bottom, price=0):
    return Sheet(sheet.base, bottom * sheet.price + price, sheet.steps, [bottom * more for more in sheet.prices])


class OverheadTest(unittest.TestCase):
    def judge(self, land, atlas, start, spot, told):
        """Judge an Overheads by the sentences of the document; the prices near by are plain waves."""
        sheets, bottom = atlas.sheets(start, spot), told.bottom
        self.assertTrue(is_ratio(told.least) and is_ratio(told.most))
        least, most = Fraction(*told.least), Fraction(*told.most)
        self.assertEqual(((bottom * least).denominator, (bottom * most).denominator), (1, 1))
        for tile in told.tiles:
            self.assertEqual(len(tile.steps), 2)
            for counts in ((0, 0), (1, 0), (0, 1), (5, 3), (2, 11), (40, 1)):
                cell = tile.cell_of(counts)
                self.assertEqual(tile.price_at(cell), bottom * hull_measure(land, cell))
        self.assertEqual((len(told.lows), len(told.highs)), (len(sheets), len(told.tiles)))
        for sheet, tree in zip(sheets, told.lows):
            self.assertTrue(tree_is_right(times(sheet, bottom, int(-bottom * least)), told.tiles, tree))
        priced = [times(sheet, bottom) for sheet in sheets]
        for tile, tree in zip(told.tiles, told.highs):
            self.assertTrue(tree_is_right(tile.moved((0, 0), int(bottom * most)), priced, tree))
        for cell, ratio in ((told.low, least), (told.high, most)):
            price = atlas.least_price((start, 0, 0), (spot, *cell))
            self.assertEqual(price - hull_measure(land, cell), ratio)
        for (end, x, y), price in list(prices_from(land, (start, 0, 0), 12).items())[::5]:
            if end == spot:
                self.assertTrue(least <= price - hull_measure(land, (x, y)) <= most)

    def test_right(self):
        """[57] Least and most, tiles and trees."""
        chance = random.Random(57)
        done = 0
        while done < 10:
            land = some_land(chance, chance.randint(1, 3), chance.choice((5, 8, 12)), chance.choice((1, 2)), 12)
            if kind_of(land) is not Around:
                continue
            done += 1
            atlas = Atlas(land)
            start, spot = chance.choice(land.spots), chance.choice(land.spots)
            told = overheads(atlas, start, spot)
            self.assertIsInstance(told, Overheads)
            self.assertIs(overheads_hold(atlas, start, spot, told), True)
            self.judge(land, atlas, start, spot, told)

    def test_lattice(self):
        """[57] Places that are never reached: only those of a lattice are."""
        land = Map("spot a\nspot b\nroad r a b 0 0 1\nroad s b a 2 0 1\nroad t b a -2 0 1\nroad u a a 0 3 2\nroad v a a 0 -3 5")
        atlas = Atlas(land)
        told = overheads(atlas, "a", "b")
        self.judge(land, atlas, "a", "b", told)
        self.assertEqual((told.least, told.most), ((1, 1), (1, 1)))

    def is_other(self, at, value, part):
        """Whether a value is surely wrong in the place of the part with this index."""
        if at in (4, 5) and type(value) is tuple and len(value) == 2 and type(value[0]) is type(value[1]) is int:
            return False
        return type(value) is not type(part) or value != part

    def test_wrong(self):
        """[57] Any values, also within; errors."""
        atlas = Atlas(STAR)
        told = overheads(atlas, "a", "a")
        names = ("bottom", "tiles", "least", "most", "low", "high", "lows", "highs")
        parts = [getattr(told, name) for name in names]
        self.assertTrue(overheads_hold(atlas, "a", "a", Overheads(*parts)))
        wrong = list(ODD_VALUES)
        for at, part in enumerate(parts):
            changed = list(ODD_VALUES) + [(1, 0), (2, 4), (0, 2), (1, True), [0, 1], (0, 1, 1), (10 ** 9, 7), (10 ** 9, 1)]
            if at in (1, 6, 7):
                changed += [list(part), part[:-1], part + part[:1]] + [(value,) + part[1:] for value in ODD_VALUES]
            wrong += [Overheads(*parts[:at], value, *parts[at + 1:]) for value in changed
                      if self.is_other(at, value, part)]
        steps = told.tiles[0].steps
        for tile in (times(told.tiles[0], 1, 1), Sheet((0, 0), 0), told.tiles[0].moved(steps[0], 0),
                     Sheet((0, 0), 0, ((1, 0), (-1, 1)), (2 * told.bottom, 7 * told.bottom))):
            wrong.append(Overheads(parts[0], (tile,) + told.tiles[1:], *parts[2:]))
        for value in wrong:
            self.assertIs(overheads_hold(atlas, "a", "a", value), False, vars(value) if hasattr(value, "__dict__") else value)
        line = Atlas(Map("spot a\nspot b\nroad r a a 1 0 1"))
        for call, rest in ((overheads, ()), (overheads_hold, (None,))):
            self.assertEqual(error_of(call, line, "a", "b", *rest), (NotAround,))
            self.assertEqual(error_of(call, line, "z", "y", *rest), (NoSpot, "z"))
            self.assertEqual(error_of(call, line, "a", None, *rest), (NoSpot, None))


if __name__ == "__main__":
    unittest.main()

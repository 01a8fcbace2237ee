import random
import unittest

from alljourneys.atlases import Atlas
from alljourneys.building import repriced, with_road, without
from alljourneys.changes import change, cheaper
from alljourneys.closures import Closing, closings
from alljourneys.comparing import Dearer
from alljourneys.errors import NoSpot
from alljourneys.leastroads import needed
from alljourneys.maps import Map, Road, map_of
from alljourneys.reaches import parts_from, within
from alljourneys.trees import tree_holds

from atlas_lands import EDGES, far_cells, some_land
from helpers import least
from lands import error_of, prices_from

GRID = Map("spot a\nroad r a a 1 0 1\nroad s a a -1 0 1\nroad t a a 0 1 1\nroad u a a 0 -1 1")
STEPS = (0, 1, 2, 3, 7, 40, 10 ** 9, 10 ** 40)


def small_land(chance):
    return some_land(chance, chance.randint(1, 2), chance.randint(1, 7), chance.choice((1, 2)), chance.choice((3, 12)))


def edited(chance, land):
    """A map that is changed by an edit of one road, with its spots and roads perhaps in another order."""
    road = chance.choice(land.roads)
    kind = chance.randrange(4)
    if kind == 0:
        land = without(land, [road.name])
    elif kind == 1:
        land = repriced(land, road.name, chance.randint(1, 12))
    elif kind == 2:
        spot = chance.choice(land.spots)
        land = with_road(land, f"road new {spot} {road.end} {chance.randint(-2, 2)} {chance.randint(-2, 2)} 4")
    else:
        return small_land(chance)
    spots = list(land.spots)
    chance.shuffle(spots)
    return map_of(spots, land.roads)


def near_cells(chance, land, start, goal):
    """Cells near and far of a spot, most of which are reached."""
    near = [place[1:] for place in prices_from(land, (start, 0, 0), 15) if place[0] == goal]
    chance.shuffle(near)
    return near[:60] + far_cells(chance, 10) + [(0, 0)]


def price_of(atlas, start, goal, cell):
    return atlas.least_price((start, 0, 0), (goal, *cell))


class ChangeTest(unittest.TestCase):
    def judge_change(self, old, new, start, goal, cells):
        told = change(old, new, start, goal)
        self.assertIsInstance(told, Dearer)
        prices = [(price_of(old, start, goal, cell), price_of(new, start, goal, cell)) for cell in cells]
        rises = [None if after is None else after - before for before, after in prices if before is not None]
        if told.kind == "none":
            self.assertEqual(old.sheets(start, goal), ())
        elif told.kind == "cut":
            self.assertIsNotNone(price_of(old, start, goal, told.cell))
            self.assertIsNone(price_of(new, start, goal, told.cell))
        elif told.kind == "endless":
            self.assertNotIn(None, rises)
            for k in STEPS:
                cell = (told.cell[0] + k * told.way[0], told.cell[1] + k * told.way[1])
                self.assertGreaterEqual(price_of(new, start, goal, cell) - price_of(old, start, goal, cell), k)
        else:
            self.assertEqual(told.kind, "bounded")
            self.assertNotIn(None, rises)
            self.assertEqual(price_of(new, start, goal, told.cell) - price_of(old, start, goal, told.cell), told.most)
            self.assertTrue(all(rise <= told.most for rise in rises))
            for sheet, tree in zip(old.sheets(start, goal), told.trees, strict=True):
                self.assertTrue(tree_holds(sheet.moved((0, 0), told.most), new.sheets(start, goal), tree))
        return told.kind

    def judge_cheaper(self, old, new, start, goal, cells):
        told = cheaper(old, new, start, goal)
        self.assertIs(type(told), tuple)
        cells = cells + [sheet.cell_of([chance % 5 for chance in range(k, k + len(sheet.steps))])
                         for k in range(5) for sheet in told]
        for cell in cells:
            before, after = price_of(old, start, goal, cell), price_of(new, start, goal, cell)
            having = [sheet for sheet in told if cell in sheet]
            if after is None or (before is not None and before <= after):
                self.assertEqual(having, [])
            else:
                self.assertEqual([sheet.price_at(cell) for sheet in having], [after])
        return len(told)

    def test_random(self):
        """[69] [70] [71] Edits of random maps, both ways, judged by the least prices near and far."""
        chance = random.Random(70)
        kinds, counts = set(), set()
        for _ in range(120):
            land = small_land(chance)
            old, new = Atlas(land), Atlas(edited(chance, land))
            for start in land.spots:
                if start not in new.land.spots:
                    continue
                for goal in land.spots:
                    if goal in new.land.spots:
                        cells = near_cells(chance, chance.choice((old, new)).land, start, goal)
                        kinds.add(self.judge_change(old, new, start, goal, cells))
                        counts.add(min(1, self.judge_cheaper(old, new, start, goal, cells)))
                        self.judge_cheaper(new, old, start, goal, cells)
        self.assertEqual((kinds, counts), ({"none", "cut", "endless", "bounded"}, {0, 1}))

    def test_by_hand(self):
        """[70] [71] A change below 0; cells that only the new map reaches; a map that reaches nothing."""
        dear = Atlas(map_of(["a"], [Road(road.name, "a", "a", road.shift, 3) for road in GRID.roads]))
        grid = Atlas(GRID)
        self.assertEqual(change(dear, grid, "a", "a").most, 0)
        self.assertEqual(change(grid, dear, "a", "a").kind, "endless")
        one = Atlas(Map("spot a\nspot b\nroad r a b 0 0 9"))
        other = Atlas(Map("spot b\nspot a\nroad r a b 0 0 4\nroad s b b 1 0 1"))
        told = change(one, other, "a", "b")
        self.assertEqual((told.kind, told.most, told.cell), ("bounded", -5, (0, 0)))
        self.assertEqual(change(other, one, "a", "b").kind, "cut")
        self.assertEqual(change(one, other, "b", "a").kind, "none")
        sheets = cheaper(one, other, "a", "b")
        for x in range(-3, 9):
            self.assertEqual([sheet.price_at((x, 0)) for sheet in sheets if (x, 0) in sheet], [4 + x] if x >= 0 else [])
        self.assertEqual(cheaper(other, one, "a", "b"), ())
        self.assertEqual(cheaper(one, other, "b", "a"), ())
        self.assertEqual(cheaper(grid, grid, "a", "a"), ())

    def test_errors(self):
        """[70] [71] NoSpot(start) if one of the maps lacks it, ahead of NoSpot(goal)."""
        one, other = Atlas(Map("spot a\nspot b\nspot c")), Atlas(Map("spot d\nspot a\nspot c"))
        for call in (change, cheaper):
            for start, goal, missing in (("b", "x", "b"), ("d", "b", "d"), ("a", "d", "d"), ("c", "b", "b"),
                                         ("r", "a", "r"), (None, "b", None), ("a", ["a"], ["a"])):
                self.assertEqual(error_of(call, one, other, start, goal), (NoSpot, missing))
                self.assertEqual(error_of(call, other, one, start, goal), (NoSpot, missing))
            self.assertIsNone(error_of(call, one, other, "a", "c"))


class ClosureTest(unittest.TestCase):
    def judge(self, land, chance):
        atlas = Atlas(land)
        told = closings(atlas)
        self.assertIs(type(told), tuple)
        self.assertEqual([closing.name for closing in told], [road.name for road in land.roads])
        for closing, road in zip(told, land.roads):
            self.assertIsInstance(closing, Closing)
            rest = Atlas(without(land, [road.name]))
            start, goal = closing.start, closing.goal
            if closing.kind == "cut":
                self.assertEqual((closing.most, closing.way), (None, None))
                self.assertIsNotNone(atlas.least_price(start, goal))
                self.assertIsNone(rest.least_price(start, goal))
            elif closing.kind == "endless":
                self.assertIsNone(closing.most)
                self.assertNotEqual(closing.way, (0, 0))
                self.assertIsNotNone(rest.least_price((road.start, 0, 0), (road.end, *road.shift)))
                for k in STEPS:
                    place = (goal[0], goal[1] + k * closing.way[0], goal[2] + k * closing.way[1])
                    self.assertGreaterEqual(rest.least_price(start, place) - atlas.least_price(start, place), k)
            else:
                self.assertEqual((closing.kind, closing.way), ("bounded", None))
                self.assertEqual(rest.least_price(start, goal) - atlas.least_price(start, goal), closing.most)
                for spot in land.spots:
                    near = list(prices_from(land, (spot, 0, 0), 20).items())
                    chance.shuffle(near)
                    far = [((end, *cell), atlas.least_price((spot, 0, 0), (end, *cell)))
                           for end in land.spots for cell in far_cells(chance, 10)]
                    for place, price in near[:60] + [row for row in far if row[1] is not None]:
                        self.assertLessEqual(rest.least_price((spot, 0, 0), place) - price, closing.most)
        return told

    def test_random(self):
        """[72] Random maps: what closing each road changes, judged by the least prices of both maps."""
        chance = random.Random(72)
        kinds = {"cut": 0, "endless": 0, "bounded": 0}
        for _ in range(50):
            land = small_land(chance)
            names = needed(land)
            rows = [(road.start, road.end, road.shift, road.price) for road in land.roads]
            for closing, row in zip(self.judge(land, chance), rows):
                kinds[closing.kind] += closing.most != 0
                self.assertEqual(closing.kind == "bounded" and closing.most == 0,
                                 closing.name not in names or rows.count(row) > 1)
        self.assertGreater(min(kinds.values()), 3)

    def test_by_hand(self):
        """[72] A road whose closing cuts off, is dearer without end, by a bounded number, or changes nothing."""
        chance = random.Random(27)
        told = self.judge(Map("spot a\nspot b\nroad r a b 0 0 2\nroad s a b 0 0 5\nroad t b b 1 0 1\nroad u b b 1 0 1\n"
                              "road v b a 0 1 1\nroad w b b -1 0 9"), chance)
        self.assertEqual([(closing.kind, closing.most) for closing in told],
                         [("endless", None), ("bounded", 0), ("bounded", 0), ("bounded", 0), ("cut", None), ("cut", None)])
        told = self.judge(Map("spot a\nspot b\nroad r a b 0 0 2\nroad s a b 0 0 5\nroad t b b 1 0 1"), chance)
        self.assertEqual([(closing.kind, closing.most) for closing in told],
                         [("bounded", 3), ("bounded", 0), ("cut", None)])
        self.assertEqual(closings(Atlas(Map("spot a\nspot b"))), ())
        for land in EDGES:
            if len(land.spots) <= 2:
                self.judge(land, chance)


class ReachTest(unittest.TestCase):
    def judge(self, land, start):
        atlas = Atlas(land)
        near = prices_from(land, (start, 0, 0), 18)
        for most in (-10 ** 60, -1, 0, 1, 2, 3, 5, 8, 13, 18):
            self.assertEqual(within(atlas, start, most), sum(price <= most for price in near.values()))
        parts = parts_from(atlas, start)
        self.assertIs(type(parts), tuple)
        for spot, sheet in parts:
            self.assertIn(spot, land.spots)
            self.assertTrue(all(price >= 1 for price in sheet.prices))
        chance = random.Random(len(near))
        places = list(near) + [(spot, *cell) for spot in land.spots for cell in far_cells(chance, 10)]
        places += [(spot, *sheet.cell_of([k * 7 ** 50 for _ in sheet.steps])) for spot, sheet in parts for k in (1, 3)]
        for place in places:
            price = atlas.least_price((start, 0, 0), place)
            having = [sheet.price_at(place[1:]) for spot, sheet in parts if spot == place[0] and place[1:] in sheet]
            self.assertEqual(having, [] if price is None else [price])

    def test_random(self):
        """[73] [74] Numbers of places as by plain waves; each place is in exactly one part, for its least price."""
        chance = random.Random(73)
        for land in EDGES:
            if len(land.spots) <= 2:
                self.judge(land, land.spots[0])
        for _ in range(60):
            land = small_land(chance)
            self.judge(land, chance.choice(land.spots))

    def test_far(self):
        """[73] Numbers of places that nobody could count."""
        atlas = Atlas(GRID)
        for most in (10 ** 60, 10 ** 60 + 1, 3 * 10 ** 59 - 7):
            self.assertEqual(within(atlas, "a", most), 2 * most * most + 2 * most + 1)
        line = Atlas(Map("spot a\nspot b\nroad r a a 1 0 3\nroad s a b 0 1 2"))
        most = 10 ** 60
        self.assertEqual(within(line, "a", most), most // 3 + 1 + (most - 2) // 3 + 1)
        self.assertEqual(within(line, "b", most), 1)
        self.assertEqual(within(line, "b", -most), 0)

    def test_errors(self):
        """[73] [74] A start that is no spot."""
        atlas = Atlas(GRID)
        for spot in ("b", "r", None, 1, ["a"], True):
            self.assertEqual(error_of(within, atlas, spot, 3), (NoSpot, spot))
            self.assertEqual(error_of(parts_from, atlas, spot), (NoSpot, spot))
        self.assertEqual(least([sheet for _, sheet in parts_from(atlas, "a")], (3, -4)), 7)


if __name__ == "__main__":
    unittest.main()

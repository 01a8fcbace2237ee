import random
import unittest

from alljourneys.atlases import Atlas
from alljourneys.errors import BadPlace, NoSpot, TooMany
from alljourneys.fans import Fan, fan_holds
from alljourneys.maps import Map
from alljourneys.papers import Paper, paper_holds
from alljourneys.routes import gone

from atlas_lands import FAR_LANDS, far_cells, many_lands, ring_land, some_land
from lands import error_of, prices_from
from test_journeys import NO_PLACES
from test_papers import paper_is_right

LAND = Map("spot a\nspot b\nroad r a b 1 -2 3 k\nroad s b a 0 5 7\nroad t a a -1 0 2 l\nroad u b b 0 1 4")


def least_of(sheets, cell):
    return min((sheet.price_at(cell) for sheet in sheets if cell in sheet), default=None)


class AtlasTest(unittest.TestCase):
    def judge(self, land, chance, starts):
        atlas = Atlas(land)
        self.assertTrue(atlas.land == land)
        for start in starts:
            paper = atlas.paper(start)
            self.assertIsInstance(paper, Paper)
            self.assertTrue(paper_holds(land, paper))
            fans = atlas.fans_from(start)
            self.assertEqual((paper.start, len(paper.fans)), (start, len(fans)))
            self.assertTrue(all(one is other for one, other in zip(paper.fans, fans)))
            self.assertTrue(all(isinstance(fan, Fan) and fan_holds(land, start, fan) for fan in fans))
            for spot in land.spots:
                sheets = [fan.sheet for fan in fans if fan.spot == spot]
                self.assertTrue(atlas.sheets(start, spot) == tuple(sheets))
            self.judge_prices(atlas, chance, start)
        return atlas

    def judge_prices(self, atlas, chance, start):
        """Near prices are those of plain waves; told routes are gone leg by leg for the told price."""
        land = atlas.land
        near = prices_from(land, (start, 0, 0), 22)
        for place, price in near.items():
            self.assertEqual(atlas.least_price((start, 0, 0), place), price)
            self.assertEqual(least_of(atlas.sheets(start, place[0]), place[1:]), price)
        for spot in land.spots:
            for x, y in far_cells(chance, 5):
                origin = (start, *far_cells(chance, 5)[chance.randrange(5)])
                goal = (spot, origin[1] + x, origin[2] + y)
                price = atlas.least_price(origin, goal)
                self.assertEqual(price, atlas.least_price((start, 0, 0), (spot, x, y)))
                self.assertEqual(price, least_of(atlas.sheets(start, spot), (x, y)))
                route = atlas.route(origin, goal)
                if price is None:
                    self.assertNotIn((spot, x, y), near)
                    self.assertIsNone(route)
                else:
                    self.assertIs(type(route), tuple)
                    self.assertLessEqual(len(route), 1000)
                    self.assertEqual(gone(land, origin, route), (goal, price))
                    self.assertTrue(price > 22 or near.get((spot, x, y)) == price)

    def test_kinds(self):
        """[49] All the kinds of maps that the document names, and their edges."""
        chance = random.Random(49)
        for land in many_lands(49, 4):
            self.judge(land, chance, chance.sample(land.spots, min(2, len(land.spots))))

    def test_far(self):
        """[49] Where it takes many rounds until those that get on best are cheapest."""
        chance = random.Random(94)
        for start, land in FAR_LANDS:
            self.judge(land, chance, (start,))

    def test_by_hand(self):
        """[47] [49] A paper of an atlas is proved by sums that the test does itself."""
        chance = random.Random(47)
        for land in (LAND, some_land(chance, 3, 6, 1, 5), some_land(chance, 2, 6, 2, 12)):
            for start in land.spots:
                self.assertTrue(paper_is_right(land, Atlas(land).paper(start)))

    def test_small(self):
        """[49] What is known of a map of one spot."""
        land = Map("spot a\nroad r a a 2 0 1\nroad s a a 3 0 1\nroad t a a 0 2 1")
        atlas = Atlas(land)
        for x in range(12):
            expected = {0: 0, 1: None}.get(x, -(-x // 3))
            self.assertEqual(atlas.least_price(("a", 5, 5), ("a", 5 + x, 5)), expected)
        self.assertIsNone(atlas.least_price(("a", 0, 0), ("a", 0, 1)))
        self.assertIsNone(atlas.least_price(("a", 0, 0), ("a", -2, 0)))
        far = 10 ** 60
        self.assertEqual(atlas.least_price(("a", -far, 1), ("a", 2 * far, 1 + 2 * far)), 2 * far)
        self.assertEqual(atlas.first_roads(("a", 0, 0), ("a", 5, 0)), ("r", "s"))
        self.assertEqual(atlas.first_roads(("a", 0, 0), ("a", 3, 2)), ("s", "t"))
        self.assertEqual(atlas.first_roads(("a", 7, 7), ("a", 7, 7)), ())
        self.assertEqual(atlas.first_roads(("a", 7, 7), ("a", 6, 7)), ())
        self.assertEqual(atlas.route(("a", 7, 7), ("a", 7, 7)), ())
        self.assertIsNone(atlas.route(("a", 7, 7), ("a", 6, 7)))
        empty = Atlas(Map("spot a\nspot b"))
        self.assertEqual(empty.sheets("a", "b"), ())
        self.assertEqual(empty.least_price(("a", 1, 1), ("a", 1, 1)), 0)
        self.assertIsNone(empty.least_price(("a", 1, 1), ("b", 1, 1)))

    def test_first_roads(self):
        """[49] A road is first exactly if its price and the rest are the least price."""
        chance = random.Random(5)
        for _ in range(6):
            land = some_land(chance, 3, 8, 1, 3)
            atlas = Atlas(land)
            for start in land.spots:
                near = prices_from(land, (start, 0, 0), 9)
                after = {road.name: prices_from(land, (road.end, *road.shift), 9) for road in land.roads_from(start)}
                for goal, price in near.items():
                    names = tuple(road.name for road in land.roads_from(start)
                                  if after[road.name].get(goal) == price - road.price)
                    self.assertEqual(atlas.first_roads((start, 0, 0), goal), names)
                    moved = (goal[0], goal[1] + 10 ** 60, goal[2] - 10 ** 60)
                    self.assertEqual(atlas.first_roads((start, 10 ** 60, -10 ** 60), moved), names)

    def test_alike(self):
        """[2] [49] Answers do not depend on what was asked before."""
        chance = random.Random(6)
        land = some_land(chance, 4, 10, 2, 12)
        one, other = Atlas(land), Atlas(Map(land.text))
        for spot in land.spots[::-1]:
            other.paper(spot)
            other.first_roads((spot, 0, 0), ("a", 4, 4))
        for spot in land.spots:
            self.assertEqual([(fan.spot, fan.journey, fan.rounds) for fan in one.fans_from(spot)],
                             [(fan.spot, fan.journey, fan.rounds) for fan in other.fans_from(spot)])
            self.assertEqual(one.paper(spot).covers, other.paper(spot).covers)

    def test_errors(self):
        """[2] [49] Wrong places and spots, and too many spots."""
        atlas = Atlas(LAND)
        for call in (atlas.least_price, atlas.route, atlas.first_roads):
            for place in NO_PLACES:
                self.assertEqual(error_of(call, place, None), (BadPlace, "start"))
                self.assertEqual(error_of(call, ("a", 0, 0), place), (BadPlace, "goal"))
            self.assertEqual(error_of(call, ("x", 0, 0), None), (NoSpot, "x"))
            self.assertEqual(error_of(call, ("a", 0, 0), ("r", 0, 0)), (NoSpot, "r"))
        for spot in ("x", "r", None, 1, ["a"], ("a",), True):
            for call in (atlas.fans_from, atlas.paper):
                self.assertEqual(error_of(call, spot), (NoSpot, spot))
            self.assertEqual(error_of(atlas.sheets, spot, "z"), (NoSpot, spot))
            self.assertEqual(error_of(atlas.sheets, "a", spot), (NoSpot, spot))
        many = "\n".join(f"spot s{k}" for k in range(13))
        self.assertEqual(error_of(Atlas, Map(many)), (TooMany, "spots", 13, 12))
        self.assertIsNone(error_of(Atlas, ring_land(random.Random(1), 12, 2, 2, 12)))


if __name__ == "__main__":
    unittest.main()

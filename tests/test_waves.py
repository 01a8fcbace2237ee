import itertools
import random
import unittest

from alljourneys.errors import BadPlace, NoSpot
from alljourneys.maps import Map
from alljourneys.waves import near_price, spread

from atlas_lands import some_land
from lands import error_of, prices_from
from test_journeys import NO_PLACES

LAND = Map("spot b\nspot a\nroad r a b 1 -2 3\nroad s b a 0 5 7\nroad t a a -1 0 2\nroad u b b 0 1 3")


class WaveTest(unittest.TestCase):
    def test_spread(self):
        """[43] Each reached place once, by price, then spot in the order of the map, then x, then y."""
        chance = random.Random(43)
        for _ in range(60):
            land = some_land(chance, chance.randint(1, 5), chance.randint(0, 12), 2, 5)
            start = (chance.choice(land.spots), chance.randint(-10 ** 50, 10 ** 50), 3)
            near = prices_from(land, start, 9)
            order = {spot: index for index, spot in enumerate(land.spots)}
            expected = sorted((price, order[spot], x, y) for (spot, x, y), price in near.items())
            found = list(itertools.takewhile(lambda row: row[0] <= 9, spread(land, start)))
            self.assertTrue(all(type(row) is tuple and len(row) == 4 for row in found))
            self.assertEqual([(price, order[spot], x, y) for price, spot, x, y in found], expected)

    def test_ends(self):
        """[43] Endless exactly if infinitely many places are reached; it may be left at any time."""
        self.assertEqual(list(spread(Map("spot a"), ("a", 3, 4))), [(0, "a", 3, 4)])
        land = Map("spot a\nspot b\nroad r a b 1 0 2\nroad s b b 0 0 1\nroad t a b 2 0 2\nroad u a a 0 0 1")
        self.assertEqual(list(spread(land, ("a", 0, 0))), [(0, "a", 0, 0), (2, "b", 1, 0), (2, "b", 2, 0)])
        self.assertEqual(list(spread(land, ("b", 0, 7))), [(0, "b", 0, 7)])
        wave = spread(LAND, ("a", 0, 0))
        self.assertEqual(next(wave), (0, "a", 0, 0))
        self.assertEqual(next(wave), (2, "a", -1, 0))
        other = spread(LAND, ("b", 0, 0))
        self.assertEqual([next(other) for _ in range(3)], [(0, "b", 0, 0), (3, "b", 0, 1), (6, "b", 0, 2)])
        self.assertEqual(next(wave), (3, "b", 1, -2))
        self.assertEqual(sum(1 for _ in itertools.islice(spread(LAND, ("a", 0, 0)), 20000)), 20000)

    def test_near(self):
        """[43] The least price if it is at most so much."""
        chance = random.Random(44)
        for _ in range(50):
            land = some_land(chance, chance.randint(1, 4), chance.randint(1, 12), 2, 6)
            start = (chance.choice(land.spots), 10 ** 30, -2)
            near = prices_from(land, start, 15)
            for goal, price in list(near.items())[::9]:
                self.assertEqual(near_price(land, start, goal, 15), price)
                self.assertEqual(near_price(land, start, goal, price), price)
                self.assertIsNone(near_price(land, start, goal, price - 1))
            for _ in range(12):
                goal = (chance.choice(land.spots), 10 ** 30 + chance.randint(-8, 8), chance.randint(-9, 9))
                self.assertEqual(near_price(land, start, goal, 15), near.get(goal))
        self.assertEqual(near_price(LAND, ("a", 0, 0), ("a", 0, 0), 0), 0)
        self.assertIsNone(near_price(LAND, ("a", 0, 0), ("a", 0, 0), -1))
        self.assertEqual(near_price(LAND, ("a", 0, 0), ("a", -150, 0), 300), 300)
        self.assertIsNone(near_price(LAND, ("a", 0, 0), ("a", -151, 0), 300))
        self.assertEqual(near_price(LAND, ("b", 0, 0), ("a", -30, 45), 300), 7 + 40 * 3 + 60)
        self.assertIsNone(near_price(LAND, ("b", 0, 0), ("a", 10 ** 300, 0), 300))

    def test_errors(self):
        """[2] [43] Wrong places."""
        for place in NO_PLACES:
            self.assertEqual(error_of(lambda: next(spread(LAND, place))), (BadPlace, "start"))
            self.assertEqual(error_of(near_price, LAND, place, None, 5), (BadPlace, "start"))
            self.assertEqual(error_of(near_price, LAND, ("a", 0, 0), place, 5), (BadPlace, "goal"))
        self.assertEqual(error_of(lambda: next(spread(LAND, ("x", 0, 0)))), (NoSpot, "x"))
        self.assertEqual(error_of(near_price, LAND, ("x", 0, 0), None, 5), (NoSpot, "x"))
        self.assertEqual(error_of(near_price, LAND, ("a", 0, 0), ("r", 0, 0), 5), (NoSpot, "r"))


if __name__ == "__main__":
    unittest.main()

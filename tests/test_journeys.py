import random
import unittest

from alljourneys.errors import BadJourney, BadPlace, NoSpot
from alljourneys.journeys import ended
from alljourneys.maps import Map

from helpers import Odd
from lands import error_of, random_journey, random_land

LAND = Map("spot a\nspot b\nroad r a b 1 -2 3\nroad s b a 0 5 7\nroad a a a -1 0 2")
NO_PLACES = (None, "a", ("a", 0), ("a", 0, 0, 0), ["a", 0, 0], (1, 0, 0), ("a", True, 0), ("a", 0, "0"),
             ("a", 0, 1.0), ())


class EndedTest(unittest.TestCase):
    """Promise [20]."""

    def test_journeys(self):
        self.assertEqual(ended(LAND, ("a", 3, 4), ()), (("a", 3, 4), 0))
        self.assertEqual(ended(LAND, ("a", 3, 4), ["r", "s", "a", "a", "r"]), (("b", 3, 5), 17))
        big = 10 ** 399
        self.assertEqual(ended(LAND, ("b", big, -big), ("s",)), (("a", big, 5 - big), 7))
        self.assertEqual(ended(LAND, ("a", 0, 0), ("a",) * 50000), (("a", -50000, 0), 100000))

    def test_errors(self):
        for place in NO_PLACES:
            self.assertEqual(error_of(ended, LAND, place, [None]), (BadPlace, "start"))
        for name in ("x", "", "r"):
            self.assertEqual(error_of(ended, LAND, (name, 0, 0), [None]), (NoSpot, name))
        for value in ("s", "x", "b", None, 1, True, ["r"], ("r",), {}, Odd(), b"r"):
            self.assertEqual(error_of(ended, LAND, ("a", 0, 0), ["a", "a", value, value]), (BadJourney, 2))
        self.assertEqual(error_of(ended, LAND, ("b", 0, 0), ["r"]), (BadJourney, 0))

    def test_random(self):
        chance = random.Random(20)
        for _ in range(100):
            land = random_land(chance)
            journey = random_journey(chance, land, "a", 9)
            roads = [land.road_named(name) for name in journey]
            place = (roads[-1].end if roads else "a", 5 + sum(road.shift[0] for road in roads),
                     6 + sum(road.shift[1] for road in roads))
            self.assertEqual(ended(land, ("a", 5, 6), journey), (place, sum(road.price for road in roads)))


if __name__ == "__main__":
    unittest.main()

import random
import unittest

from alljourneys.building import joined, recounted, repriced, sheared, turned, widened, with_road, without
from alljourneys.errors import BadName, BadNumber, BadText, NoRoad, NoSpot, TakenName, TooLarge, TooMany
from alljourneys.maps import Map, Road, map_of

from lands import error_of, prices_from, random_land
from texts import is_road, where

LAND = Map("spot a\nspot b\nroad r a b 1 -2 3 l\nroad s b a 0 5 7\nroad a a a -1 0 2\n")


def rows(land):
    return [(road.name, road.start, road.end, road.shift, road.price, road.label) for road in land.roads]


class BuildingTest(unittest.TestCase):
    def test_turned(self):
        """[21] turned, and its least prices."""
        self.assertEqual(rows(turned(LAND)), [("r", "b", "a", (-1, 2), 3, "l"), ("s", "a", "b", (0, -5), 7, None),
                                              ("a", "a", "a", (1, 0), 2, None)])
        self.assertTrue(turned(turned(LAND)) == LAND)
        chance = random.Random(21)
        for _ in range(20):
            land = random_land(chance)
            back = turned(land)
            for spot in land.spots:
                for (goal, x, y), price in prices_from(back, (spot, 0, 0), 12).items():
                    self.assertEqual(prices_from(land, (goal, 0, 0), 12).get((spot, -x, -y)), price)

    def test_sheared(self):
        """[21] The matrix is applied to each shift; its determinant is 1 or -1."""
        self.assertEqual([road.shift for road in sheared(LAND, ((2, 1), (1, 1))).roads], [(0, -1), (5, 5), (-2, -1)])
        self.assertEqual([road.shift for road in sheared(LAND, [[0, 1], [1, 0]]).roads], [(-2, 1), (5, 0), (0, -1)])
        self.assertTrue(sheared(LAND, ((1, 0), (0, 1))) == LAND)
        for matrix, size in ((((1, 2), (2, 4)), 0), (((2, 0), (0, 1)), 2), (((0, 3), (1, 0)), -3),
                             (((10 ** 60, 0), (0, 1)), 10 ** 60)):
            self.assertEqual(error_of(sheared, LAND, matrix), (BadNumber, "matrix", size))
        self.assertEqual(error_of(sheared, LAND, ((1, 2), (0, 1))), (TooLarge, "shift", 10, 9))

    def test_recounted(self):
        """[21] The places of a spot are counted anew; prices stay."""
        self.assertEqual([road.shift for road in recounted(LAND, "a", (2, 3)).roads], [(3, 1), (-2, 2), (-1, 0)])
        self.assertEqual([road.shift for road in recounted(LAND, "b", (2, 3)).roads], [(-1, -5), (2, 8), (-1, 0)])
        for value in ("x", "r", None, 1, ["a"]):
            self.assertEqual(error_of(recounted, LAND, value, (0, 0)), (NoSpot, value))
        self.assertEqual(error_of(recounted, LAND, "a", (9, 0)), (TooLarge, "shift", 10, 9))
        chance = random.Random(22)
        for _ in range(20):
            land = random_land(chance)
            p, q = chance.randint(-3, 3), chance.randint(-3, 3)
            other = recounted(land, "b", (p, q))

            def named(place):
                return (place[0], place[1] - p, place[2] - q) if place[0] == "b" else place

            for spot in land.spots:
                old = prices_from(land, (spot, 0, 0), 15)
                self.assertEqual(prices_from(other, named((spot, 0, 0)), 15),
                                 {named(place): price for place, price in old.items()})

    def test_joined(self):
        """[21] Spots and roads of both."""
        other = Map("spot b\nspot c\nroad t b c 0 0 1\nroad u c b 0 0 1")
        both = joined(LAND, other)
        self.assertEqual(both.spots, ("a", "b", "c"))
        self.assertEqual([road.name for road in both.roads], ["r", "s", "a", "t", "u"])
        self.assertEqual(error_of(joined, LAND, Map("spot c\nroad s c c 0 0 1")), (TakenName, "s"))
        many = map_of([f"s{k}" for k in range(24)], [Road(f"q{k}", "s0", "s0", (0, 0), 1) for k in range(158)])
        self.assertEqual(error_of(joined, LAND, many), (TooMany, "spots", 26, 24))
        many = map_of(["a"], [Road(f"q{k}", "a", "a", (0, 0), 1) for k in range(158)])
        self.assertEqual(error_of(joined, LAND, many), (TooMany, "roads", 161, 160))

    def test_without(self):
        """[21] Roads are left out; each name must be that of one."""
        self.assertEqual([road.name for road in without(LAND, ["s", "s"]).roads], ["r", "a"])
        self.assertEqual(without(LAND, ("a", "r", "s")).roads, ())
        self.assertTrue(without(LAND, []) == LAND)
        for value in ("b", "", None, 1, ["r"], ("r",)):
            self.assertEqual(error_of(without, LAND, ["r", value, None]), (NoRoad, value))
        self.assertEqual(len(LAND.roads), 3)

    def test_with_road(self):
        """[21] One more road; the right beginning of its line."""
        line = "  road  r.2 b  b -1 9  99 la.bel "
        self.assertEqual(rows(with_road(LAND, line))[3:], [("r.2", "b", "b", (-1, 9), 99, "la.bel")])
        self.assertEqual(rows(with_road(LAND, "road b a a 0 0 1"))[3], ("b", "a", "a", (0, 0), 1, None))
        for end in range(len(line)):
            start = line[:end]
            words = [word for word in start.split(" ") if word]
            right = is_road(words, ["r", "s", "a"], ["a", "b"])
            self.assertEqual(error_of(with_road, LAND, start), None if right else (BadText,) + where(start, end), start)
        for line, column in (("", 1), ("  ", 3), ("\n", 1), ("spot c", 1), ("road r", 7), ("road r a a 0 0 1", 7),
                             ("road s x", 7), ("road q c a 0 0 1", 8), ("road q a a 0 0 1\n", 17),
                             ("road q a a 0 0 1 \n", 18), ("road q a a 0 0 1 l\nroad", 19), ("road q\na a 0 0 1", 7),
                             ("road q a a 0 0 1 l m", 20), ("road q a a 10 0 1", 13)):
            self.assertEqual(error_of(with_road, LAND, line), (BadText, 1, column), line)
        full = map_of(["a"], [Road(f"q{k}", "a", "a", (0, 0), 1) for k in range(160)])
        self.assertEqual(error_of(with_road, full, "x"), (TooMany, "roads", 161, 160))
        self.assertEqual(len(with_road(without(full, ["q0"]), "road q0 a a 0 0 1").roads), 160)

    def test_repriced(self):
        """[21] Another price for one road."""
        self.assertEqual([road.price for road in repriced(LAND, "s", 99).roads], [3, 99, 2])
        self.assertEqual(rows(repriced(LAND, "r", 1))[0], ("r", "a", "b", (1, -2), 1, "l"))
        for value in ("b", None, ["r"]):
            self.assertEqual(error_of(repriced, LAND, value, 0), (NoRoad, value))
        for value in (0, -1, True, None, "1", [1]):
            self.assertEqual(error_of(repriced, LAND, "r", value), (BadNumber, "price", value))
        self.assertEqual(error_of(repriced, LAND, "r", 100), (TooLarge, "price", 100, 99))

    def test_widened(self):
        """[22] Larger cells: names, order, remainders, prices."""
        wide = widened(LAND, ((2, 1), (0, 1)))
        self.assertEqual(wide.spots, ("a.0", "a.1", "b.0", "b.1"))
        self.assertEqual([road.name for road in wide.roads], ["r.0", "r.1", "s.0", "s.1", "a.0", "a.1"])
        self.assertEqual(rows(wide)[4:], [("a.0", "a.0", "a.1", (-1, 0), 2, None),
                                          ("a.1", "a.1", "a.0", (0, 0), 2, None)])
        self.assertEqual(widened(LAND, ((0, 1), (1, 0))).spots, ("a.0", "b.0"))
        chance = random.Random(23)
        for _ in range(40):
            land = random_land(chance)
            matrix = tuple(tuple(chance.randint(-2, 2) for _ in range(2)) for _ in range(2))
            (a, b), (c, d) = matrix
            if a * d == b * c:
                self.assertEqual(error_of(widened, land, matrix), (BadNumber, "matrix", 0))
                continue
            self.judge_wide(land, matrix, abs(a * d - b * c))

    def judge_wide(self, land, matrix, size):
        (a, b), (c, d) = matrix
        wide = widened(land, matrix)
        lattice = {(a * x + b * y, c * x + d * y) for x in range(-9, 10) for y in range(-9, 10)}
        up = min(y for x, y in lattice if y > 0)
        across = min(x for x, y in lattice if x > 0 and y == 0)
        self.assertEqual(up * across, size)

        def old(place):
            spot, _, number = place[0].rpartition(".")
            return (spot, int(number) % across + a * place[1] + b * place[2],
                    int(number) // across + c * place[1] + d * place[2])

        for name in wide.spots:
            for (spot, x, y), price in prices_from(wide, (name, 1, -2), 5).items():
                self.assertEqual(prices_from(land, old((name, 1, -2)), 5)[old((spot, x, y))], price)
            self.assertEqual(len(prices_from(wide, (name, 1, -2), 5)), len(prices_from(land, old((name, 1, -2)), 5)))

    def test_errors_of_widened(self):
        """[22] Too many are counted, not made; other errors are those of map_of."""
        big = 10 ** 199
        self.assertEqual(error_of(widened, LAND, ((big, 0), (0, big))), (TooMany, "spots", 2 * big * big, 24))
        self.assertEqual(error_of(widened, LAND, ((13, 5), (0, -1))), (TooMany, "spots", 26, 24))
        self.assertEqual(len(widened(LAND, ((12, 5), (0, -1))).spots), 24)
        many = map_of(["a"], [Road(f"q{k}", "a", "a", (0, 0), 1) for k in range(41)])
        self.assertEqual(error_of(widened, many, ((2, 0), (0, 2))), (TooMany, "roads", 164, 160))
        long = map_of(["a" * 39], [])
        self.assertEqual(error_of(widened, long, ((1, 0), (0, 1))), (BadName, "a" * 39 + ".0"))
        self.assertEqual(error_of(widened, LAND, ((1, 9), (0, 1))), (TooLarge, "shift", 19, 9))


if __name__ == "__main__":
    unittest.main()

import random
import unittest

from alljourneys.atlases import Atlas
from alljourneys.errors import BadNumber, BadPlace, NoSpot, TakenName, TooLarge, TooMany
from alljourneys.maps import Map, Road, map_of
from alljourneys.meetings import Meeting, Walkers, unit_map
from alljourneys.routes import gone

from atlas_lands import some_land
from helpers import Odd
from lands import error_of, prices_from
from test_journeys import NO_PLACES

LAND = Map("spot a\nspot b\nroad r a b 1 -2 3 k\nroad s b a 0 5 1\nroad t a a -1 0 2 l")
NO_SPOTS = ("z", "r", None, 1, True, ["a"], Odd())


def one_land(chance, names):
    """A random map of these spots with roads of price 1."""
    many = chance.randint(1, 4)
    return map_of(names, [Road(f"r{k}", chance.choice(names), chance.choice(names),
                               (chance.randint(-1, 1), chance.randint(-1, 1)), 1) for k in range(many)])


def walked(land, place, many):
    """The list of the sets of places where a walker can be at each moment up to so many."""
    stages = [{place}]
    for _ in range(many):
        stages.append({(road.end, x + road.shift[0], y + road.shift[1])
                       for spot, x, y in stages[-1] for road in land.roads_from(spot)})
    return stages


class UnitTest(unittest.TestCase):
    def test_by_hand(self):
        """[79] Spots and roads in their order; waits behind them."""
        land = unit_map(LAND, ["b", "a"])
        self.assertEqual(land.spots, ("a", "b", "r.1", "r.2", "t.1"))
        rows = [(road.name, road.start, road.end, road.shift, road.price, road.label) for road in land.roads]
        self.assertEqual(rows, [
            ("r.1", "a", "r.1", (0, 0), 1, None), ("r.2", "r.1", "r.2", (0, 0), 1, None),
            ("r.3", "r.2", "b", (1, -2), 1, None), ("s.1", "b", "a", (0, 5), 1, None),
            ("t.1", "a", "t.1", (0, 0), 1, None), ("t.2", "t.1", "a", (-1, 0), 1, None),
            ("b.wait", "b", "b", (0, 0), 1, None), ("a.wait", "a", "a", (0, 0), 1, None)])
        self.assertEqual(unit_map(LAND).roads, land.roads[:6])
        self.assertEqual(unit_map(LAND, ()), unit_map(LAND))

    def test_prices(self):
        """[79] Least prices between the spots of the map stay as they are."""
        chance = random.Random(79)
        for _ in range(30):
            land = some_land(chance, chance.randint(1, 3), chance.randint(0, 5), 2, 4)
            units = unit_map(land, chance.sample(land.spots, chance.randint(0, 1)))
            self.assertTrue(all(road.price == 1 and road.label is None for road in units.roads))
            for spot in land.spots:
                near = prices_from(land, (spot, 0, 0), 12)
                steps = {place: price for place, price in prices_from(units, (spot, 0, 0), 12).items()
                         if place[0] in land.spots}
                self.assertEqual(near, steps)

    def test_errors(self):
        """[79] The errors and their order."""
        for spot in NO_SPOTS:
            self.assertEqual(error_of(unit_map, LAND, ["a", spot, "y"])[0], NoSpot)
        self.assertEqual(error_of(unit_map, LAND, ("a", "y", "z")), (NoSpot, "y"))
        self.assertEqual(error_of(unit_map, LAND, ("a", "b", "a")), (TakenName, "a.wait"))
        land = Map("spot r.1\nspot a\nroad q a a 0 0 2\nroad r a a 0 0 2\nroad r.1 a a 0 0 2")
        self.assertEqual(error_of(unit_map, land), (TakenName, "r.1"))
        self.assertEqual(error_of(unit_map, land, ("b",)), (NoSpot, "b"))
        land = Map("spot a\nroad a a a 0 0 1\nroad r a a 0 0 25")
        self.assertEqual(error_of(unit_map, land), (TooMany, "spots", 25, 24))
        self.assertEqual(error_of(unit_map, land, ("a", "a")), (TakenName, "a.wait"))
        self.assertIsNone(error_of(unit_map, Map("spot a\nroad r a a 0 0 24")))
        many = map_of(["a"], [Road(f"r{k}", "a", "a", (0, 0), 1) for k in range(160)])
        self.assertIsNone(error_of(unit_map, many))
        self.assertEqual(error_of(unit_map, many, ("a",)), (TooMany, "roads", 161, 160))
        long = "x" * 38
        self.assertIsNone(error_of(unit_map, Map(f"spot a\nroad {long} a a 0 0 9")))
        self.assertEqual(error_of(unit_map, Map(f"spot a\nroad {long} a a 0 0 11")), (TooLarge, "name", 41, 40))
        long = "x" * 39
        self.assertEqual(error_of(unit_map, Map(f"spot a\nroad {long} a a 0 0 1")), (TooLarge, "name", 41, 40))
        self.assertEqual(error_of(unit_map, Map(f"spot {long}"), (long,)), (TooLarge, "name", 44, 40))
        self.assertEqual(error_of(unit_map, Map(f"spot a\nroad {long} a a 0 0 25")), (TooMany, "spots", 25, 24))


class WalkersTest(unittest.TestCase):
    def judge(self, one, other, chance):
        walkers = Walkers(one, other)
        self.assertTrue(walkers.one == one and walkers.other == other)
        land = walkers.land
        self.assertEqual(land.spots, tuple(f"{a}.{b}" for a in one.spots for b in other.spots))
        self.assertEqual([(r.name, r.start, r.end, r.shift, r.price, r.label) for r in land.roads], [
            (f"{r.name}.{s.name}", f"{r.start}.{s.start}", f"{r.end}.{s.end}",
             (s.shift[0] - r.shift[0], s.shift[1] - r.shift[1]), 1, None) for r in one.roads for s in other.roads])
        common = [spot for spot in one.spots if spot in other.spots]
        for a in one.spots:
            for b in other.spots:
                self.assertEqual(walkers.spot_of(a, b), f"{a}.{b}")
                self.judge_apart(walkers, a, b, chance)
                for _ in range(6):
                    cell = (chance.randint(-3, 3), chance.randint(-3, 3))
                    self.judge_meeting(walkers, (a, 1, 2), (b, 1 + cell[0], 2 + cell[1]), common)
        return walkers

    def judge_meeting(self, walkers, first, second, common):
        told = walkers.earliest(first, second)
        ours, theirs = walked(walkers.one, first, 9), walked(walkers.other, second, 9)
        moments = [k for k in range(10) if any(place[0] in common for place in ours[k] & theirs[k])]
        if told is None:
            self.assertEqual(moments, [])
            return
        self.assertIsInstance(told, Meeting)
        self.assertEqual(moments[:1], [told.moment] if told.moment <= 9 else [])
        self.assertIn(told.spot, common)
        self.assertLessEqual(len(told.legs), 1000)
        start = (f"{first[0]}.{second[0]}", second[1] - first[1], second[2] - first[2])
        self.assertEqual(gone(walkers.land, start, told.legs), ((f"{told.spot}.{told.spot}", 0, 0), told.moment))

    def judge_apart(self, walkers, a, b, chance):
        cell = walkers.apart(a, b)
        if cell is not None:
            self.assertIsNone(walkers.earliest((a, 0, 0), (b, *cell)))
            return
        for _ in range(8):
            size = chance.choice((4, 10 ** 30))
            self.assertIsNotNone(walkers.earliest((a, 7, -7), (b, chance.randint(-size, size), chance.randint(-size, size))))

    def test_random(self):
        """[80] Walkers on random maps, by what both can reach step by step."""
        chance = random.Random(80)
        for _ in range(40):
            names = chance.choice((["a"], ["a", "b"]))
            self.judge(one_land(chance, names), one_land(chance, chance.choice((["a"], ["b", "a"], ["b", "c"]))), chance)

    def test_by_hand(self):
        """[80] Walkers that meet at once, never, only at some moments, or far away."""
        chance = random.Random(8)
        grid = Map("spot a\nroad r a a 1 0 1\nroad s a a -1 0 1\nroad t a a 0 1 1\nroad u a a 0 -1 1")
        walkers = self.judge(grid, grid, chance)
        told = walkers.earliest(("a", 5, 5), ("a", 5, 5))
        self.assertEqual((told.moment, told.spot, told.legs), (0, "a", ()))
        self.assertEqual(walkers.earliest(("a", 0, 0), ("a", 2 * 10 ** 59, 0)).moment, 10 ** 59)
        # With each step, both change between even and odd cells.
        self.assertIsNone(walkers.earliest(("a", 0, 0), ("a", 0, 1)))
        x, y = walkers.apart("a", "a")
        self.assertEqual((x + y) % 2, 1)
        waiting = self.judge(unit_map(grid, ["a"]), grid, chance)
        self.assertEqual(waiting.earliest(("a", 0, 0), ("a", 0, 1)).moment, 1)
        self.assertIsNone(waiting.apart("a", "a"))
        apart = self.judge(grid, Map("spot b\nroad r b b 1 0 1"), chance)
        self.assertIsNone(apart.earliest(("a", 0, 0), ("b", 0, 0)))
        self.assertIsNotNone(apart.apart("a", "b"))
        still = self.judge(Map("spot a\nspot b"), Map("spot b\nspot a"), chance)
        self.assertEqual(still.earliest(("b", 3, 3), ("b", 3, 3)).moment, 0)
        self.assertIsNone(still.earliest(("a", 3, 3), ("b", 3, 3)))

    def test_errors(self):
        """[80] The errors and their order."""
        one = Map("spot a\nspot b\nroad r a b 9 0 1\nroad s a b 0 0 1")
        dear = Map("spot a\nroad r a a 0 0 1\nroad s a a 0 0 2\nroad t a a 0 0 3")
        self.assertEqual(error_of(Walkers, dear, Map("spot a\nroad r a a 0 0 9")), (BadNumber, "price", 2))
        self.assertEqual(error_of(Walkers, one, dear), (BadNumber, "price", 2))
        dots, tail = Map("spot a\nspot a.b"), Map("spot b.c\nspot c")
        self.assertEqual(error_of(Walkers, dots, tail), (TakenName, "a.b.c"))
        dots = Map("spot z\nroad a z z 0 0 1\nroad a.b z z 0 0 1")
        tail = Map("spot z\nroad b.c z z 0 0 1\nroad c z z 0 0 1")
        self.assertEqual(error_of(Walkers, dots, tail), (TakenName, "a.b.c"))
        wide = map_of([f"s{k}" for k in range(7)], [])
        self.assertEqual(error_of(Walkers, wide, one), (TooMany, "spots", 14, 12))
        many = map_of(["a"], [Road(f"r{k}", "a", "a", (9, 9), 1) for k in range(13)])
        self.assertEqual(error_of(Walkers, many, many), (TooMany, "roads", 169, 160))
        long, less = "x" * 20, "x" * 19
        named = Map(f"spot {long}\nspot b\nroad r b b 9 0 1")
        other = Map("spot a\nspot b\nroad r b b -9 0 1")
        self.assertIsNone(error_of(Walkers, Map(f"spot {long}"), Map(f"spot {less}")))
        self.assertEqual(error_of(Walkers, named, Map(f"spot a\nspot {long}\nroad r a a -9 0 1")), (TooLarge, "name", 41, 40))
        roads = Map(f"spot a\nroad r{long} a a 9 0 1")
        self.assertEqual(error_of(Walkers, roads, Map(f"spot a\nroad q{less} a a -9 0 1")), (TooLarge, "name", 42, 40))
        self.assertEqual(error_of(Walkers, named, other), (TooLarge, "shift", -18, 9))
        walkers = Walkers(one, Map("spot c\nspot a\nroad r c a 0 0 1"))
        for call in (walkers.spot_of, walkers.apart):
            for spot in NO_SPOTS:
                self.assertEqual(error_of(call, spot, None)[0], NoSpot)
                self.assertEqual(error_of(call, "a", spot)[0], NoSpot)
            self.assertEqual(error_of(call, "c", "b"), (NoSpot, "c"))
            self.assertEqual(error_of(call, "b", "b"), (NoSpot, "b"))
        for place in NO_PLACES:
            self.assertEqual(error_of(walkers.earliest, place, None), (BadPlace, "first"))
            self.assertEqual(error_of(walkers.earliest, ("a", 0, 0), place), (BadPlace, "second"))
        self.assertEqual(error_of(walkers.earliest, ("c", 0, 0), None), (NoSpot, "c"))
        self.assertEqual(error_of(walkers.earliest, ("b", 0, 0), ("b", 0, 0)), (NoSpot, "b"))
        self.assertEqual(Atlas(walkers.land).least_price(("a.c", 0, 0), ("b.a", -9, 0)), 1)


if __name__ == "__main__":
    unittest.main()

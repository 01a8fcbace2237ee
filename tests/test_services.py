import random
import unittest

from alljourneys.atlases import Atlas
from alljourneys.depots import farthest, station_prices
from alljourneys.errors import BadNumber, BadPlace, NoSpot, TooLarge, TooMany
from alljourneys.journeys import ended
from alljourneys.maps import Map
from alljourneys.owners import owners_hold
from alljourneys.services import Area, areas, nearest, sheets_to, unserved

from atlas_lands import EDGES, far_cells, some_land
from helpers import Odd, least
from lands import error_of, prices_from
from test_journeys import NO_PLACES

LAND = Map("spot a\nspot b\nspot c\nroad r a b 1 0 3\nroad s b a 0 1 2\nroad t b b -1 0 1\nroad u c a 0 0 9 k")
NO_SPOTS = ("d", "r", None, 1, True, ["a"], ("a",), Odd())


class DepotTest(unittest.TestCase):
    def judge(self, land, spots):
        told = station_prices(land, spots)
        self.assertIs(type(told), tuple)
        prices = []
        for spot, row in zip(land.spots, told, strict=True):
            near = prices_from(land, (spot, 0, 0), 40)
            price = min((price for place, price in near.items() if place[0] in spots), default=None)
            prices.append(price)
            if row is None:
                self.assertIsNone(price)
                continue
            self.assertEqual(row[0], price)
            place, price = ended(land, (spot, 5, 5), row[1])
            self.assertEqual((place[0] in spots, price), (True, row[0]))
            self.assertIs(type(row[1]), tuple)
            if spot in spots:
                self.assertEqual(row, (0, ()))
        most = None if None in prices else max(prices)
        self.assertEqual(farthest(land, spots), tuple(spot for spot, price in zip(land.spots, prices) if price == most))

    def test_random(self):
        """[75] Random maps with stations at some spots, at all of them, and at none that can be reached."""
        chance = random.Random(75)
        for _ in range(80):
            land = some_land(chance, chance.randint(1, 6), chance.randint(0, 10), 1, 5)
            self.judge(land, [chance.choice(land.spots) for _ in range(chance.randint(1, 3))])
            self.judge(land, land.spots)
        self.judge(LAND, ["c"])
        self.assertEqual(farthest(LAND, ("c",)), ("a", "b"))
        self.assertEqual(farthest(LAND, ["b", "b"]), ("c",))
        self.assertEqual(station_prices(LAND, ("b",)), ((3, ("r",)), (0, ()), (12, ("u", "r"))))
        self.assertEqual(farthest(LAND, LAND.spots), LAND.spots)
        self.assertEqual(farthest(Map("spot a\nspot b\nspot c\nroad r a c 0 0 4\nroad s b c 1 1 4"), ["c"]), ("a", "b"))

    def test_errors(self):
        """[75] BadNumber ahead of NoSpot, of the first item that is no spot."""
        for call in (station_prices, farthest):
            self.assertEqual(error_of(call, LAND, []), (BadNumber, "spots", 0))
            self.assertEqual(error_of(call, LAND, ()), (BadNumber, "spots", 0))
            for value in NO_SPOTS:
                self.assertEqual(error_of(call, LAND, ["a", value, "z"])[0], NoSpot)
            self.assertEqual(error_of(call, LAND, ["a", "y", "z"]), (NoSpot, "y"))


class ServiceTest(unittest.TestCase):
    def judge(self, land, services, chance):
        atlas = Atlas(land)
        for spot in land.spots:
            told = areas(atlas, services, spot)
            self.assertIs(type(told), tuple)
            self.assertEqual(len(told), len(services))
            lists = [sheets_to(atlas, spot, service) for service in services]
            for index, area in enumerate(told):
                self.assertIsInstance(area, Area)
                sheets = list(lists[index])
                for other, more in enumerate(lists):
                    sheets += more if other != index else ()
                self.assertTrue(owners_hold(sheets, area.trees))
            cells = [(x, y) for x in range(-6, 7) for y in range(-6, 7)]
            chance.shuffle(cells)
            cells = cells[:30] + far_cells(chance, 10) + [sheet.cell_of([k * 9 ** 40 for _ in sheet.steps])
                                                          for area in told for sheet in area.pieces[:3] for k in (0, 1)]
            lone = unserved(atlas, services, spot)
            cells += [] if lone is None else [lone]
            for cell in cells:
                self.judge_cell(atlas, services, (spot, *cell), told, lists, cell == lone)
                self.assertFalse(lone is None and nearest(atlas, services, (spot, *cell)) is None)

    def judge_cell(self, atlas, services, place, told, lists, is_lone):
        cell = place[1:]
        prices = [atlas.least_price(place, service) for service in services]
        self.assertEqual([least(sheets, cell) for sheets in lists], prices)
        best = min((price for price in prices if price is not None), default=None)
        indexes = tuple(index for index, price in enumerate(prices) if price == best and best is not None)
        self.assertEqual(nearest(atlas, services, place), None if best is None else (best, indexes))
        self.assertTrue(best is None or not is_lone)
        for index, area in enumerate(told):
            having = [sheet.price_at(cell) for sheet in area.pieces if cell in sheet]
            self.assertEqual(having, [best] if index in indexes else [])

    def test_random(self):
        """[76] [77] [78] One to four services, one of them twice, on random maps."""
        chance = random.Random(78)
        for _ in range(60):
            land = some_land(chance, chance.randint(1, 2), chance.randint(1, 7), chance.choice((1, 2)), chance.choice((3, 12)))
            services = [(chance.choice(land.spots), chance.randint(-4, 4), chance.randint(-4, 4))
                        for _ in range(chance.randint(1, 3))]
            if chance.random() < 0.3:
                services.append(services[0])
            self.judge(land, services, chance)
        for land in EDGES:
            if len(land.spots) <= 2:
                self.judge(land, ((land.spots[-1], 9, -9), (land.spots[0], 0, 0)), chance)

    def test_by_hand(self):
        """[76] [77] [78] Ties, a service that stands twice, and cells without a service."""
        line = Atlas(Map("spot a\nroad r a a 1 0 1\nroad s a a -1 0 1"))
        services = [("a", -2, 0), ("a", 2, 0), ("a", -2, 0)]
        self.assertEqual(nearest(line, services, ("a", 0, 0)), (2, (0, 1, 2)))
        self.assertEqual(nearest(line, services, ("a", -1, 0)), (1, (0, 2)))
        self.assertIsNone(nearest(line, services, ("a", 0, 1)))
        self.assertNotEqual(unserved(line, services, "a")[1], 0)
        told = areas(line, services, "a")
        for x in range(-9, 10):
            for area, service in zip(told, services):
                prices = [sheet.price_at((x, 0)) for sheet in area.pieces if (x, 0) in sheet]
                self.assertEqual(prices, [abs(x - service[1])] if x * service[1] >= 0 else [])
        grid = Atlas(Map("spot a\nroad r a a 1 0 1\nroad s a a -1 0 1\nroad t a a 0 1 1\nroad u a a 0 -1 1"))
        self.assertIsNone(unserved(grid, (("a", 9, 9),), "a"))
        self.assertEqual(nearest(grid, [("a", 9, -9)], ("a", -10 ** 60, 0)), (10 ** 60 + 18, (0,)))
        sheets = sheets_to(Atlas(LAND), "a", ("b", 4, 5))
        self.assertEqual(least(sheets, (3, 5)), 3)
        self.assertEqual(sheets_to(Atlas(LAND), "a", ("c", 4, 5)), ())

    def test_errors(self):
        """[76] The errors of services come behind those of places and spots, item by item."""
        atlas = Atlas(LAND)
        good = ("a", 9, -9)
        calls = (lambda services: nearest(atlas, services, good), lambda services: areas(atlas, services, "b"),
                 lambda services: unserved(atlas, services, "c"))
        for call in calls:
            self.assertEqual(error_of(call, []), (BadNumber, "services", 0))
            self.assertEqual(error_of(call, [None] * 5), (TooMany, "services", 5, 4))
            for place in NO_PLACES:
                self.assertEqual(error_of(call, [good, place, None]), (BadPlace, "services"))
            self.assertEqual(error_of(call, (good, ("z", 99, 99), None)), (NoSpot, "z"))
            self.assertEqual(error_of(call, [("a", 10, 99), ("z", 0, 0)]), (TooLarge, "services", 10, 9))
            self.assertEqual(error_of(call, [("a", 9, -10), None]), (TooLarge, "services", -10, 9))
            self.assertIsNone(error_of(call, [good, good, ("c", -9, 9), good]))
        for place in NO_PLACES:
            self.assertEqual(error_of(nearest, atlas, [], place), (BadPlace, "place"))
            self.assertEqual(error_of(sheets_to, atlas, "a", place), (BadPlace, "service"))
        self.assertEqual(error_of(nearest, atlas, [], ("z", 0, 0)), (NoSpot, "z"))
        self.assertEqual(error_of(sheets_to, atlas, "a", ("z", 0, 0)), (NoSpot, "z"))
        for spot in NO_SPOTS:
            for call in (areas, unserved):
                self.assertEqual(error_of(call, atlas, [], spot)[0], NoSpot)
            self.assertEqual(error_of(sheets_to, atlas, spot, None)[0], NoSpot)


if __name__ == "__main__":
    unittest.main()

import heapq
import random
import unittest

from alljourneys.atlases import Atlas
from alljourneys.comparing import Dearer
from alljourneys.errors import BadPlace, NoSpot, TooMany, Unlike
from alljourneys.maps import Map
from alljourneys.routes import gone
from alljourneys.travellers import Traveller
from alljourneys.trees import tree_holds
from alljourneys.trips import Trips, surcharges

from helpers import least
from lands import error_of, random_land
from test_journeys import NO_PLACES
from test_travellers import Walker, random_rules


def walked(walker, start, most):
    """Least prices of a walker, by the words of the document, to all places up to a price."""
    land = walker.land
    first = walker.goes(start, ())[0]
    queue = [(0, 0, (start, 0, 0), first)]
    seen, found, count = set(), {}, 0
    while queue:
        price, _, place, known = heapq.heappop(queue)
        if (place, known) in seen:
            continue
        seen.add((place, known))
        if walker.may_end(known):
            found.setdefault(place, price)
        for road in land.roads_from(place[0]):
            behind = step(walker, known, road)
            if behind is not None and price + road.price <= most:
                count += 1
                there = (road.end, place[1] + road.shift[0], place[2] + road.shift[1])
                heapq.heappush(queue, (price + road.price, count, there, behind))
    return found


def step(walker, known, road):
    """What is known behind a road, from what is known ahead of it; None if it cannot be gone."""
    state, level, last = known
    if ["bar", last, road.name] in walker.lines:
        return None
    if walker.states and road.label is not None:
        steps = [line[3] for line in walker.lines if line[:3] == ["step", state, road.label]]
        if not steps:
            return None
        state = steps[0]
    if walker.tank:
        level -= sum(int(line[2]) for line in walker.lines if line[:2] == ["burn", road.name])
        if level < 0:
            return None
        if ["well", road.end] in walker.lines:
            level = walker.tank[0]
    return (state, level, road.name)


def judge_dearer(case, told, sheets, others, cells):
    """Judge a Dearer by its words, at some cells too."""
    case.assertIsInstance(told, Dearer)
    if not sheets:
        case.assertEqual((told.kind, told.most, told.cell, told.way, told.trees), ("none",) + (None,) * 4)
        return
    prices = [(least(sheets, cell), least(others, cell)) for cell in cells]
    prices = [pair for pair in prices if pair[0] is not None]
    if told.kind == "cut":
        case.assertIsNotNone(least(sheets, told.cell))
        case.assertIsNone(least(others, told.cell))
        return
    case.assertTrue(all(pair[1] is not None for pair in prices))
    if told.kind == "endless":
        for k in (0, 1, 7, 10 ** 20):
            cell = (told.cell[0] + k * told.way[0], told.cell[1] + k * told.way[1])
            case.assertGreaterEqual(least(others, cell) - least(sheets, cell), k)
        return
    case.assertEqual((told.kind, told.way), ("bounded", None))
    case.assertEqual(least(others, told.cell) - least(sheets, told.cell), told.most)
    case.assertTrue(all(pair[1] - pair[0] <= told.most for pair in prices))
    case.assertEqual(len(told.trees), len(sheets))
    for sheet, tree in zip(sheets, told.trees):
        case.assertTrue(tree_holds(sheet.moved((0, 0), told.most), others, tree))


NEAR = [(x, y) for x in range(-4, 5) for y in range(-4, 5)]


class TripTest(unittest.TestCase):
    def random_trips(self, chance, count):
        while count > 0:
            land = random_land(chance, chance.randint(1, 3), 6, 1, 6)
            if len(land.roads) < 2:
                continue
            text = random_rules(chance, land)
            if error_of(Traveller, land, text) is None and len(Traveller(land, text).expanded.spots) <= 12:
                count -= 1
                yield land, text

    def test_random(self):
        """[32] [34] Near prices are those of a walker; routes are gone by the traveller for the told price."""
        chance = random.Random(34)
        for land, text in self.random_trips(chance, 25):
            traveller = Traveller(land, text)
            trips = Trips(traveller)
            self.assertTrue(trips.traveller is traveller and isinstance(trips.atlas, Atlas))
            for start in land.spots:
                near = walked(Walker(land, text), start, 9)
                for goal in land.spots:
                    sheets = trips.sheets(start, goal)
                    parts = [trips.atlas.sheets(traveller.first_spot(start), spot) for spot in traveller.last_spots(goal)]
                    self.assertTrue(sheets == tuple(sheet for part in parts for sheet in part))
                    for x, y in NEAR + [(10 ** 20, 0), (-10 ** 9, 10 ** 20)]:
                        self.judge(trips, (start, 3, -10 ** 50), (goal, 3 + x, y - 10 ** 50), near.get((goal, x, y)),
                                   least(sheets, (x, y)))

    def judge(self, trips, start, goal, near, by_sheets):
        price = trips.least_price(start, goal)
        self.assertEqual(price, by_sheets)
        self.assertTrue(price == near or (near is None and price > 9))
        route = trips.route(start, goal)
        if price is None:
            self.assertIsNone(route)
            return
        self.assertEqual(gone(trips.traveller.land, start, route), (goal, price))
        self.assertLessEqual(len(route), 1000)
        if price < 10 ** 4:
            journey = [name for names, times in route for name in names * times]
            stages = trips.traveller.went(start, journey)
            self.assertIn(stages[-1][1], trips.traveller.last_spots(goal[0]))

    def test_at_the_goal(self):
        """[32] [34] At its goal, and yet it has to go a round, or has no price."""
        land = Map("spot a\nroad r a a 1 0 2 k\nroad s a a -1 0 3")
        trips = Trips(Traveller(land, "state x\nstate y\nstep x k y\nlast y"))
        self.assertEqual(trips.least_price(("a", 0, 0), ("a", 0, 0)), 5)
        self.assertEqual(trips.least_price(("a", 0, 0), ("a", 1, 0)), 2)
        self.assertIsNone(trips.least_price(("a", 0, 0), ("a", 2, 0)))
        self.assertIsNone(trips.route(("a", 0, 0), ("a", 2, 0)))
        self.assertEqual(trips.least_price(("a", 0, 0), ("a", -10 ** 60, 0)), 3 * (10 ** 60 + 1) + 2)
        trips = Trips(Traveller(land, ""))
        self.assertEqual(trips.route(("a", 4, 0), ("a", 4, 0)), ())
        trips = Trips(Traveller(land, "state x\nstate y\nlast y"))
        self.assertIsNone(trips.least_price(("a", 0, 0), ("a", 0, 0)))
        self.assertEqual(trips.sheets("a", "a"), ())

    def test_surcharges(self):
        """[34] [35] By how much one traveller pays more than another one."""
        chance = random.Random(35)
        kinds = set()
        for land, text in self.random_trips(chance, 12):
            other = random_rules(chance, land)
            if error_of(Traveller, land, other) is not None or len(Traveller(land, other).expanded.spots) > 12:
                continue
            one, two = Trips(Traveller(land, text)), Trips(Traveller(land, other))
            for spot in land.spots:
                told = surcharges(one, two, spot)
                self.assertEqual((type(told), len(told)), (tuple, len(land.spots)))
                for goal, dear in zip(land.spots, told):
                    judge_dearer(self, dear, one.sheets(spot, goal), two.sheets(spot, goal), NEAR)
                    kinds.add(dear.kind)
        self.assertGreaterEqual(len(kinds), 3)

    def test_errors(self):
        """[34] Too many spots, wrong places and spots, other maps."""
        land = Map("spot a\nspot b\nroad r a b 1 0 2")
        self.assertEqual(error_of(Trips, Traveller(land, "tank 6")), (TooMany, "spots", 14, 12))
        trips = Trips(Traveller(land, "tank 5"))
        for call in (trips.least_price, trips.route):
            for place in NO_PLACES:
                self.assertEqual(error_of(call, place, None), (BadPlace, "start"))
                self.assertEqual(error_of(call, ("a", 0, 0), place), (BadPlace, "goal"))
            self.assertEqual(error_of(call, ("a.5", 0, 0), None), (NoSpot, "a.5"))
            self.assertEqual(error_of(call, ("a", 0, 0), ("r", 0, 0)), (NoSpot, "r"))
        for spot in ("a.5", None, 1, ["a"]):
            self.assertEqual(error_of(trips.sheets, spot, "z"), (NoSpot, spot))
            self.assertEqual(error_of(trips.sheets, "a", spot), (NoSpot, spot))
            self.assertEqual(error_of(surcharges, trips, trips, spot), (NoSpot, spot))
        other = Trips(Traveller(Map("spot a"), ""))
        self.assertEqual(error_of(surcharges, trips, other, "z"), (Unlike, "map"))


if __name__ == "__main__":
    unittest.main()

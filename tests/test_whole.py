import importlib
import inspect
import random
import unittest

from alljourneys.agreeing import agreeing, unlike_at
from alljourneys.atlases import Atlas
from alljourneys.building import turned
from alljourneys.changes import change
from alljourneys.closures import closings
from alljourneys.depots import farthest, station_prices
from alljourneys.desk import Desk
from alljourneys.edges import around
from alljourneys.guides import guide_holds, loss
from alljourneys.leastroads import instead, needed, same_prices
from alljourneys.letters import Letter
from alljourneys.maps import Map, Road, map_of
from alljourneys.measures import measure
from alljourneys.meetings import Walkers, unit_map
from alljourneys.posts import posts_hold, posts_of
from alljourneys.reaches import parts_from, within
from alljourneys.rings import Levels, Ring, levels_hold, ring_of
from alljourneys.routes import gone
from alljourneys.services import areas, nearest, unserved
from alljourneys.sheets import Sheet
from alljourneys.tables import Table
from alljourneys.waits import waits_hold, waits_of

from atlas_lands import some_land

# For each module what it defines: functions and classes with the names of their arguments.
INTERFACE = """
agreeing: agreeing one other, unlike_at one other ratio
arrivals: Arrivals timetable, lateness arrivals spot phase other
atlases: Atlas land
building: turned land, sheared land matrix, recounted land spot cell, joined one other, without land names,
 with_road land line, repriced land name price, widened land matrix
changes: change old new start goal, cheaper old new start goal
closures: closings atlas, Closing name kind most start goal way
comparing: dearer sheets others, Dearer kind most cell way trees
counting: count_within sheets price
covers: covered sheet sheets, Cover tree, Gap cell, rise sheet sheets, Rise kind most cell way tree
depots: station_prices land spots, farthest land spots
desk: Desk
edges: around land, Apart start end, OneSided line worths, Around edges, Edge first second line bottom worths,
 around_holds land value
fans: Fan spot sheet journey rounds, fan_holds land start fan
guides: Guide most trees, guide_holds table back guide, loss table back, Loss kind most start goal way guide
journeys: ended land start journey
leastroads: needed land, least_rows land, least_map land, instead land name, same_prices one other,
 needed_until land name
letters: Letter land letters, LetterFan spot sheet marks journey rounds, letter_fan_holds letter start fan,
 sheet_at fan ratio
lines: price_line told goal, needed_for letter name
maps: Map text, Road name start end shift price label, map_of spots roads
matching: Matching matrix spots, mismatch one other matching, partner one other matching name,
 carried one other matching start journey, widening land matrix
measures: measure paper cell, edge_at paper cell, plane land start line bottom, Falling journey ring,
 Plane numbers journeys, fastest land line, Fastest ratio ring worths
meetings: unit_map land waits, Walkers one other, Meeting moment spot legs
overheads: overheads atlas start spot, Overheads bottom tiles least most low high lows highs,
 overheads_hold atlas start spot value
owners: owned sheets, owners_hold sheets trees, parts_of sheets, Part index sheet, least_at sheets cell
papers: Paper start fans covers, paper_holds land paper, Floor start parts covers, floor_holds land floor
pieces: built plan
posts: Post spot sheet road, Posts goal posts steps covers, posts_of back goal, posts_hold back posts
reaches: within atlas start most, parts_from atlas start
regions: Region rows, quarters, region_holds region trees, region_gap one other
rings: Ring spot legs, Levels rows, ring_of land, levels_hold land levels
routes: gone land start legs
services: sheets_to atlas spot service, nearest atlas services place, areas atlas services spot, Area pieces trees,
 unserved atlas services spot
sheets: Sheet base price steps prices
stretches: Stretch start low high fans covers, stretches letter start, stretch_holds letter stretch,
 price_for told goal ratio
tables: Table land text, Rule conditions road, Followed kind journey place price
timetables: Timetable land text
travellers: Traveller land text, parting one other
trees: tree_holds sheet sheets tree
trips: Trips traveller, surcharges one other spot
waits: Waits land pairs trees, waits_of table, waits_hold table waits
waves: spread land start, near_price land start goal most
"""
# For each class its methods with the names of their arguments.
METHODS = """
Arrivals: durations start goal, arrival start moment goal, departure start goal moment, route start moment goal
Atlas: fans_from start, sheets start spot, paper start, least_price start goal, route start goal, first_roads start goal
Desk: put new text, branch name new, remake name text, close name road, lay name line, reprice name road price, drop name,
 rename name new, keep promise, release promise, undo, redo, attempt action, tried action, maps, map_of_name name,
 parent name, ancestors name, children name, promises, looked_at promise, broken, __enter__
Letter: row_of journey, at_price price
Map: road_named name, roads_from spot
Matching: image place, then other
Region: quarter_trees, sheets
Sheet: counts cell, price_at cell, cell_of counts, moved shift price
Table: rules_of goal spot, road_at start goal, followed start goal most
Timetable: may_enter road moment, spot_at spot moment, went start moment ride, lifted start moment ride, plain journey
Traveller: first_spot spot, last_spots spot, went start journey, lifted start journey, plain journey
Trips: least_price start goal, route start goal, sheets start goal
Walkers: spot_of first second, earliest first second, apart first second
"""

GRID = Map("spot a\nroad r a a 1 0 2\nroad s a a -1 0 2\nroad t a a 0 1 3\nroad u a a 0 -1 3")


def entries(text):
    """The pairs of a name and its entries, each a list of words."""
    for row in text.strip().replace("\n ", " ").split("\n"):
        head, _, tail = row.partition(": ")
        yield head, [entry.split() for entry in tail.split(",")] if tail else []


class InterfaceTest(unittest.TestCase):
    def test_names(self):
        """[2] Each function and class stands in its module, with its arguments in order."""
        classes = {}
        for stem, rows in entries(INTERFACE):
            module = importlib.import_module("alljourneys." + stem)
            for name, *arguments in rows:
                found = getattr(module, name)
                self.assertEqual(found.__module__, module.__name__, name)
                self.assertEqual(list(inspect.signature(found).parameters), arguments, name)
                if inspect.isclass(found):
                    classes[name] = found
        for name, rows in entries(METHODS):
            for method, *arguments in rows:
                self.assertIn(method, vars(classes[name]), name)
                found = list(inspect.signature(vars(classes[name])[method]).parameters)
                self.assertEqual(found[1:], arguments, (name, method))

    def test_values(self):
        """[2] Classes that are created from values keep them as attributes of these names, the very values."""
        plain = {"Closing", "Dearer", "Cover", "Gap", "Rise", "Apart", "OneSided", "Around", "Edge", "Fan", "Guide", "Loss",
                 "LetterFan", "Falling", "Plane", "Fastest", "Meeting", "Overheads", "Part", "Paper", "Floor", "Post", "Posts",
                 "Ring", "Levels", "Area", "Stretch", "Rule", "Followed", "Waits", "Road"}
        seen = set()
        for stem, rows in entries(INTERFACE):
            for name, *arguments in rows:
                if name in plain:
                    values = [object() for _ in arguments]
                    made = getattr(importlib.import_module("alljourneys." + stem), name)(*values)
                    self.assertTrue(all(getattr(made, word) is value for word, value in zip(arguments, values)), name)
                    seen.add(name)
        self.assertEqual(seen, plain)


class ConventionTest(unittest.TestCase):
    def test_lists_and_tuples(self):
        """[2] A list may be passed where a tuple is described, and a tuple where a list is; neither is changed."""
        land = some_land(random.Random(2), 2, 7, 1, 5)
        atlas = Atlas(land)
        services = [("a", 0, 0), ("b", 1, 1)]
        for call in (lambda kind: station_prices(land, kind(["a", "a"])), lambda kind: farthest(land, kind(["b"])),
                     lambda kind: nearest(atlas, kind(services), ("a", 3, 3)), lambda kind: unserved(atlas, kind(services), "a"),
                     lambda kind: [area.trees for area in areas(atlas, kind(services), "b")],
                     lambda kind: unit_map(land, kind(["b"])).text, lambda kind: Letter(land, kind(["r0", "r1"])).letters):
            self.assertEqual(call(list), call(tuple))
        for values, call in ((["a", "b"], lambda values: station_prices(land, values)),
                             (services, lambda values: areas(atlas, values, "a")),
                             (["b", "a"], lambda values: unit_map(land, values))):
            kept = list(values)
            call(values)
            self.assertEqual(values, kept)

    def test_tuples_are_told(self):
        """[2] What is returned in an order is a tuple, also within other tuples."""
        def judge(value):
            self.assertNotIsInstance(value, (list, set, dict))
            for item in value if type(value) is tuple else ():
                judge(item)

        land = some_land(random.Random(3), 2, 6, 1, 5)
        atlas, back = Atlas(land), Atlas(turned(land))
        table = Table(land, "goal a\nat a if least 1 0 0 rest 1 1 0 2 go " + land.roads_from("a")[0].name)
        waits, posts = waits_of(table), posts_of(back, "a")
        for value in (needed(land), station_prices(land, ["a"]), farthest(land, ["a"]), parts_from(atlas, "a"), closings(atlas),
                      areas(atlas, [("a", 0, 0)], "a")[0].pieces, areas(atlas, [("a", 0, 0)], "a")[0].trees, table.goals,
                      table.rules_of("a", "a"), table.rules_of("a", "a")[0].conditions, waits.pairs, waits.trees, posts.posts,
                      posts.steps, posts.covers, ring_of(land).legs if isinstance(ring_of(land), Ring) else ring_of(land).rows,
                      agreeing(Letter(land, ("r0",)), Letter(land, ("r0",))), Desk().maps(), Desk().promises(), Desk().broken()):
            self.assertIs(type(value), tuple)
            judge(value)

    def test_far(self):
        """[2] Integers of four hundred digits."""
        far = 10 ** 399
        atlas = Atlas(GRID)
        self.assertEqual(atlas.least_price(("a", far, -far), ("a", -far, far)), 10 * far)
        self.assertEqual(nearest(atlas, [("a", 1, 1)], ("a", far, 1)), (2 * far - 2, (0,)))
        self.assertGreater(within(atlas, "a", far), far)
        table = Table(GRID, "goal a\nat a if least -1 0 -1 go r\nat a go s")
        self.assertEqual(table.road_at(("a", -far, 0), ("a", far, 0)), "r")
        grid = unit_map(Map("spot a\nroad r a a 1 0 1\nroad s a a -1 0 1"))
        self.assertEqual(Walkers(grid, grid).earliest(("a", 0, 0), ("a", 2 * far, 0)).moment, far)
        desk = Desk()
        desk.put("m", GRID.text)
        self.assertEqual(desk.looked_at(("within", "m", "a", "a", Sheet((far, far), 5 * far, ((far, 0),), (2 * far,)))), (True, None))


class AllTest(unittest.TestCase):
    def test_all(self):
        """[1] One map through all questions: each answer fits the others."""
        land = Map("spot inn\nspot mill\nroad brook inn mill 0 1 3\nroad path mill inn 1 0 2\nroad lane mill inn -1 0 2\n"
                   "road down inn inn 0 -2 5\nroad idle inn inn 0 -4 10\nroad back mill mill 0 0 4")
        atlas = Atlas(land)
        start, goal = ("inn", 0, 0), ("mill", 7, 8)
        price = atlas.least_price(start, goal)
        self.assertEqual(gone(land, start, atlas.route(start, goal)), (goal, price))
        self.assertEqual(needed(land), ("brook", "path", "lane", "down"))
        self.assertEqual(instead(land, "idle"), ("down", "down"))
        self.assertIsNone(same_prices(land, map_of(land.spots[::-1], [land.road_named(name) for name in needed(land)])))
        top, bottom = measure(around(land), (70, 80))
        self.assertLess(abs(atlas.least_price(start, ("inn", 70 * 10 ** 9, 80 * 10 ** 9)) * bottom - top * 10 ** 9), 99 * bottom)
        dear = map_of(land.spots, [Road(road.name, road.start, road.end, road.shift, road.price + (road.name == "brook"))
                                   for road in land.roads])
        self.assertEqual(change(atlas, Atlas(dear), "inn", "mill").kind, "endless")
        self.assertEqual([(row.kind, row.most) for row in closings(atlas)][4:], [("bounded", 0), ("bounded", 0)])
        self.assertEqual(within(atlas, "inn", 9), len([1 for spot in land.spots for x in range(-9, 10) for y in range(-9, 10)
                                                        if (atlas.least_price(start, (spot, x, y)) or 10 * (spot != "inn" or
                                                            (x, y) != (0, 0))) <= 9]))
        back = Atlas(turned(land))
        self.assertTrue(posts_hold(back, posts_of(back, "inn")))
        table = Table(land, "goal inn\nat inn if least 0 1 -1 go down\nat inn go brook\nat mill if least 1 0 0 go lane\nat mill go path")
        found = loss(table, back)
        self.assertTrue(found.kind != "bounded" or guide_holds(table, back, found.guide))
        waits = waits_of(table)
        self.assertTrue(waits_hold(table, waits))
        rings = ring_of(waits.land)
        self.assertTrue(isinstance(rings, Ring) or (isinstance(rings, Levels) and levels_hold(waits.land, rings)))
        self.assertIsNone(unlike_at(Letter(land, ("brook",)), Letter(without_idle(land), ("brook",)), (3, 1)))


def without_idle(land):
    """The map with another idle road, which is as dear as its detour."""
    return map_of(land.spots, [Road("rest", "inn", "inn", (0, -4), 10) if road.name == "idle" else road for road in land.roads])


if __name__ == "__main__":
    unittest.main()

import random
import unittest

from alljourneys.errors import BadNumber, TooMany
from alljourneys.maps import Map, Road, map_of
from alljourneys.regions import quarters
from alljourneys.rings import Levels, Ring, levels_hold, ring_of
from alljourneys.routes import gone
from alljourneys.sheets import Sheet
from alljourneys.tables import Table
from alljourneys.waits import Waits, waits_hold, waits_of

from atlas_lands import EDGES, many_lands, some_land
from helpers import ODD_VALUES, Odd, changed_trees, deepened
from lands import error_of, prices_from
from tables import behind, random_table, sections_of, told
from test_guides import GRID, STRAIGHT, condition_on, is_count, rule_fits, tree_is_right


def levels_are_right(land, rows):
    """Whether Levels of right kinds hold, by the words of the document."""
    left = list(land.roads)
    for row in rows:
        numbers = dict(zip(land.spots, row, strict=True))
        still = []
        for road in left:
            (a, b, n), (c, d, m) = numbers[road.start], numbers[road.end]
            growth = a * road.shift[0] + b * road.shift[1] + m - n
            if (a, b) != (c, d) or growth < 0:
                return False
            still += [road] if growth == 0 else []
        left = still
    return not left


class RingTest(unittest.TestCase):
    def judge(self, land):
        found = ring_of(land)
        if isinstance(found, Ring):
            self.assertIs(type(found.legs), tuple)
            self.assertTrue(1 <= len(found.legs) <= 1000)
            self.assertEqual(gone(land, (found.spot, 5, -7), found.legs)[0], (found.spot, 5, -7))
            return len(found.legs)
        self.assertIsInstance(found, Levels)
        self.assertLessEqual(len(found.rows), 5)
        self.assertTrue(levels_are_right(land, found.rows))
        self.assertIs(levels_hold(land, found), True)
        return "levels"

    def test_random(self):
        """[88] [89] Rings are gone road by road; levels are judged by sums."""
        chance = random.Random(88)
        kinds = set()
        for _ in range(400):
            kinds.add(self.judge(some_land(chance, chance.randint(1, chance.choice((2, 4, 12))), chance.randint(0, 14),
                                           chance.choice((0, 1, 2, 9)), 9)))
            kinds.add(self.judge(some_land(chance, chance.randint(1, 4), chance.randint(1, 8), 2, 3, True)))
        for land in EDGES + many_lands(89, 3):
            kinds.add(self.judge(land))
        self.assertTrue(kinds >= {"levels", 1, 2, 3})

    def test_large(self):
        """[89] Maps of any size, with rings and without."""
        chance = random.Random(90)
        for sides in ((0, 9), (-9, 9)):
            roads = [Road(f"r{k}", f"s{chance.randrange(24)}", f"s{chance.randrange(24)}",
                          (chance.randint(*sides), chance.randint(1 if sides[0] == 0 else -9, 9)), 1) for k in range(160)]
            kind = self.judge(map_of([f"s{k}" for k in range(24)], roads))
            self.assertEqual(kind == "levels", sides[0] == 0)

    def test_by_hand(self):
        """[88] [89] Maps without roads, back and forth, and with rings over several parts only."""
        def kind(text):
            return self.judge(Map(text))

        self.assertEqual(ring_of(Map("spot a\nspot b")).rows, ())
        self.assertEqual(kind("spot a\nroad r a a 0 0 1"), 1)
        self.assertNotEqual(kind("spot a\nroad r a a 2 0 1\nroad s a a -3 0 1"), "levels")
        self.assertEqual(kind("spot a\nroad r a a 2 0 1\nroad s a a 3 0 1"), "levels")
        self.assertNotEqual(kind("spot a\nroad r a a 2 1 1\nroad s a a -3 1 1\nroad t a a 0 -1 1"), "levels")
        # All rounds lie in a half plane; those on its side lead both ways, but at spots that do not hang together there.
        self.assertEqual(kind("spot a\nspot b\nroad r a a 1 0 1\nroad s b b -1 0 1\nroad t a b 0 1 1\nroad u b a 0 1 1"),
                         "levels")
        self.assertNotEqual(kind("spot a\nspot b\nroad r a a 1 0 1\nroad s b b -1 0 1\nroad t a b 0 1 1\nroad u b a 0 -1 1"),
                            "levels")
        # Only with both rounds, and so often that they take back what the way between them adds.
        self.assertNotEqual(kind("spot a\nspot b\nroad r a a 5 0 1\nroad s b b -7 0 1\nroad t a b 3 0 1\nroad u b a 1 0 1"),
                            "levels")
        self.assertNotEqual(kind("spot a\nspot b\nspot c\nroad r a a 5 1 1\nroad s b b -7 2 1\nroad v c c 1 -9 1\n"
                                 "road t a b 3 2 1\nroad u b c 1 0 1\nroad w c a 0 5 1"), "levels")

    def test_hold(self):
        """[89] Levels with a part that is changed, and values of other kinds."""
        land = Map("spot a\nspot b\nroad r a b 1 0 1\nroad s b a 1 2 1\nroad t a a 0 1 1")
        good = ring_of(land).rows
        self.assertTrue(levels_hold(Map("spot a\nspot b"), Levels(())))
        self.assertFalse(levels_hold(land, Levels(())))
        self.assertIs(levels_hold(land, good), False)
        for value in ODD_VALUES + (Levels, land):
            self.assertIs(levels_hold(land, value), False)
            self.assertIs(levels_hold(land, Levels(value)), False)
            self.assertFalse(levels_hold(land, Levels((value,))))
            self.assertFalse(levels_hold(land, Levels((((1, 1, 0), value),))))
            self.assertFalse(levels_hold(land, Levels(good + (value,))))
        self.assertFalse(levels_hold(land, Levels(list(good))))
        self.assertFalse(levels_hold(land, Levels(tuple(list(row) for row in good))))
        found = {True: 0, False: 0}
        for numbers in ((0, 0, 0), (1, 1, 0), (1, 1, 1), (True, 1, 0), (1, 1, 0, 0), (1, 1), [1, 1, 0], (1, 1, "0"), (1, 1, -2),
                        (2, 1, 0), (1, 1, 1.0), (-1, 1, 0), (1, 1, Odd())):
            for other in ((1, 1, 0), (2, 1, 0), (0, 0, 1)):
                for rows in (((numbers, other),), ((other, numbers),), ((numbers, other), (other, numbers)), good + ((other, other),)):
                    right = all(type(row) is tuple and len(row) == 3 and all(type(number) is int for number in row)
                                for level in rows for row in level) and levels_are_right(land, rows)
                    self.assertIs(levels_hold(land, Levels(rows)), right)
                    found[right] += 1
        self.assertGreater(min(found.values()), 5)


def telling(sections, land, goal, spot, value, leaf, shift):
    """Whether a value tells what is told on a piece of bearings, each moved by a shift, by the words of the document."""
    quarter, (base, directions, _) = leaf
    sheet = Sheet((quarter.base[0] + shift[0], quarter.base[1] + shift[1]), 0, quarter.steps, (0, 0))
    rules = sections[goal].get(spot, [])
    if value == "goal" and type(value) is str:
        return spot == goal and not directions and sheet.cell_of(base) == (0, 0)
    if value == "none" and type(value) is str:
        return all(any(condition_on(sheet, base, directions, condition) is False for condition in conditions)
                   for conditions, _ in rules)
    return is_count(value, rules) and rule_fits(sheet, base, directions, rules, value)


def end_is_right(land, sections, place, pairs, leaf):
    """Whether an end of the trees of Waits is right, by the words of the document."""
    (goal, spot), (_, (_, _, node)) = place, leaf
    if type(node) is not tuple or len(node) != 3 or node[0] != "wait":
        return False
    if not telling(sections, land, goal, spot, node[1], leaf, (0, 0)):
        return False
    if type(node[1]) is not int:
        return node[2] is None
    road = land.road_named(sections[goal][spot][node[1]][1])
    if not telling(sections, land, goal, road.end, node[2], leaf, road.shift):
        return False
    return type(node[2]) is not int or (road.name, sections[goal][road.end][node[2]][1]) in pairs


def trees_are_right(land, text, waits):
    """Whether the trees of Waits are right, by the words of the document."""
    sections = sections_of(land, text)
    pairs = [pair[:2] for pair in waits.pairs]
    for goal, row in zip(sections, waits.trees, strict=True):
        for spot, trees in zip(land.spots, row, strict=True):
            for quarter, tree in zip(quarters(), trees, strict=True):
                if not tree_is_right(2, tree, lambda leaf: end_is_right(
                        land, sections, (goal, spot), pairs, (quarter, leaf))):
                    return False
    return True


def near_pairs(land, sections, size):
    """All pairs of roads of which the first one waits for the second, at near bearings."""
    pairs = set()
    for goal in sections:
        for spot in land.spots:
            for x in range(-size, size + 1):
                for y in range(-size, size + 1):
                    road = told(land, sections, (spot, x, y), (goal, 0, 0))
                    if road is not None:
                        other = told(land, sections, behind((spot, x, y), road), (goal, 0, 0))
                        if other is not None:
                            pairs.add((road.name, other.name))
    return pairs


class WaitsTest(unittest.TestCase):
    def judge(self, land, text, size=13):
        table, sections = Table(land, text), sections_of(land, text)
        waits = waits_of(table)
        self.assertIsInstance(waits, Waits)
        names = [road.name for road in land.roads]
        order = [(names.index(pair[0]), names.index(pair[1])) for pair in waits.pairs]
        self.assertEqual(order, sorted(set(order)))
        for first, second, goal, bearing in waits.pairs:
            start = (land.road_named(first).start, *bearing)
            self.assertEqual(told(land, sections, start, (goal, 0, 0)).name, first)
            self.assertEqual(told(land, sections, behind(start, land.road_named(first)), (goal, 0, 0)).name, second)
        self.assertEqual(waits.land.spots, tuple(names))
        self.assertEqual([(r.name, r.start, r.end, r.shift, r.price, r.label) for r in waits.land.roads], [
            (f"w{k}", pair[0], pair[1], land.road_named(pair[0]).shift, 1, None) for k, pair in enumerate(waits.pairs, 1)])
        self.assertLessEqual(near_pairs(land, sections, size), {pair[:2] for pair in waits.pairs})
        self.assertTrue(trees_are_right(land, text, waits))
        self.assertIs(waits_hold(table, waits), True)
        return waits

    def test_random(self):
        """[90] [91] Random tables: pairs by following told roads, trees by sums."""
        chance = random.Random(91)
        rings = {True: 0, False: 0}
        for _ in range(60):
            land = some_land(chance, chance.randint(1, 2), chance.randint(1, 5), chance.choice((1, 2)), 4)
            waits = self.judge(land, random_table(chance, land), 8)
            rings[isinstance(ring_of(waits.land), Ring)] += 1
        self.assertGreater(min(rings.values()), 5)

    def test_by_hand(self):
        """[90] [91] Packets that wait in a ring, and such that never do."""
        waits = self.judge(GRID, STRAIGHT)
        self.assertEqual([pair[:2] for pair in waits.pairs], [
            ("r", "r"), ("r", "t"), ("r", "u"), ("s", "s"), ("s", "t"), ("s", "u"), ("t", "t"), ("u", "u")])
        self.assertIsInstance(ring_of(waits.land), Levels)
        waits = self.judge(GRID, "goal a\nat a if least 1 0 0 least 0 1 -1 go s\nat a if least 1 0 -1 least 0 -1 0 go t\n"
                                 "at a if least 0 -1 -1 go r\nat a go u")
        self.assertIsInstance(ring_of(waits.land), Ring)
        # Only the goal lies behind: no road is told there.
        waits = self.judge(Map("spot a\nroad r a a 1 0 1"), "goal a\nat a if least 1 0 1 least -1 0 -1 least 0 1 0 least 0 -1 0 go r")
        self.assertEqual(waits.pairs, ())
        self.assertEqual(self.judge(GRID, "").trees, ())
        self.assertEqual(self.judge(GRID, "goal a").pairs, ())

    def test_hold(self):
        """[91] Waits with a part that is changed, and values of other kinds."""
        chance = random.Random(19)
        land = Map("spot a\nspot b\nroad r a b 1 0 2\nroad s b a 0 1 1\nroad t a a -1 0 1")
        text = "goal b\nat a if least 1 0 0 rest 0 1 0 2 go r\nat a if least 0 1 1 go t\nat b go s\ngoal a\nat b go s"
        table = Table(land, text)
        good = self.judge(land, text)
        for value in ODD_VALUES + (good.trees, Waits, land):
            self.assertIs(waits_hold(table, value), False)
            for wrong in ((value, good.pairs, good.trees), (good.land, value, good.trees), (good.land, good.pairs, value)):
                if value is not good.trees or wrong[2] is not value:
                    self.assertFalse(waits_hold(table, Waits(*wrong)))
            self.assertFalse(waits_hold(table, Waits(good.land, good.pairs + (value,), good.trees)))
        pairs = good.pairs
        first = pairs[0]
        for wrong in (list(pairs), pairs[::-1], pairs[1:], pairs + pairs[:1], (list(first),) + pairs[1:],
                      (first[:3],) + pairs[1:], (first + (0,),) + pairs[1:], ((*first[:3], list(first[3])),) + pairs[1:],
                      ((*first[:3], (True, 0)),) + pairs[1:], ((*first[:2], "z", first[3]),) + pairs[1:],
                      (("z",) + first[1:],) + pairs[1:], ((first[0], "z") + first[2:],) + pairs[1:],
                      ((*first[:3], (0, 10 ** 9 + 1)),) + pairs[1:], ((Odd(),) + first[1:],) + pairs[1:]):
            self.assertFalse(waits_hold(table, Waits(good.land, wrong, good.trees)), wrong)
        roads = good.land.roads
        for wrong in (map_of(good.land.spots, roads[1:]), map_of(good.land.spots[::-1], roads), map_of(good.land.spots, roads[::-1]),
                      map_of(good.land.spots, [Road("w1", roads[0].start, roads[0].end, (5, 5), 1)] + list(roads[1:])),
                      map_of(good.land.spots, [Road("v1", *[roads[0].start, roads[0].end, roads[0].shift], 1)] + list(roads[1:])),
                      map_of(good.land.spots, [Road("w1", *[roads[0].start, roads[0].end, roads[0].shift], 2)] + list(roads[1:]))):
            self.assertFalse(waits_hold(table, Waits(wrong, pairs, good.trees)))
        self.judge_trees(land, text, good, chance)

    def judge_trees(self, land, text, good, chance):
        table = Table(land, text)
        trees = good.trees
        for wrong in (list(trees), trees[1:], trees + trees[:1], (list(trees[0]),) + trees[1:], (trees[0][1:],) + trees[1:],
                      ((list(trees[0][0]),) + trees[0][1:],) + trees[1:], ((trees[0][0][1:],) + trees[0][1:],) + trees[1:]):
            self.assertFalse(waits_hold(table, Waits(good.land, good.pairs, wrong)))
        odd = [("wait", "none", None), ("wait", "goal", None), ("wait", 0, 0), ("wait", 0, "none"), ("wait", 0, "goal"),
               ("wait", 1, 0), ("wait", 0, 1), ("wait", 0, None), ("wait", "none", "none"), ("wait", True, 0), ("wait", 0, False),
               ["wait", "none", None], ("wait", "none"), ("end", 0), ("wait", -1, None), ("wait", 9, None), ("wait", None, None),
               ("wait", Odd(), None), ("wait", "none", Odd()), ("wait", 0, Odd()), Odd(), ("goal",)]
        found = {True: 0, False: 0}
        for at, row in enumerate(trees):
            for where, four in enumerate(row):
                for number, tree in enumerate(four):
                    others = [tree] + list(changed_trees(chance, tree, 8))
                    spot = chance.randrange(len(tree))
                    others += [tree[:spot] + (new,) + tree[spot + 1:] for new in odd]
                    for other in others:
                        changed = row[:where] + (four[:number] + (other,) + four[number + 1:],) + row[where + 1:]
                        waits = Waits(good.land, good.pairs, trees[:at] + (changed,) + trees[at + 1:])
                        right = trees_are_right(land, text, waits)
                        self.assertIs(waits_hold(table, waits), right, (tree, other))
                        found[right] += 1
        self.assertGreater(min(found.values()), 10)

    def test_deep(self):
        """[91] Trees 1,200 nodes deep."""
        table = Table(GRID, "goal a\nat a go r")
        good = waits_of(table)
        self.assertEqual([pair[:2] for pair in good.pairs], [("r", "r")])
        plain = (("wait", 0, 0),)
        deep = deepened(plain, 0, 1200)
        for tree, holds in ((plain, True), (deep, True), (deep[:-1], False), (deep + plain, False),
                            (deep[:-1] + (("wait", 0, 1),), False)):
            waits = Waits(good.land, good.pairs, (((plain, tree, plain, plain),),))
            self.assertIs(waits_hold(table, waits), holds)

    def test_errors(self):
        """[91] The errors of map_of for the map of waits."""
        self.assertEqual(error_of(waits_of, Table(Map("spot a"), "goal a")), (BadNumber, "spots", 0))
        many = map_of(["a"], [Road(f"r{k}", "a", "a", (0, 0), 1) for k in range(25)])
        self.assertEqual(error_of(waits_of, Table(many, "goal a\nat a go r3")), (TooMany, "spots", 25, 24))
        # In each quarter a road leads to the goal, so it waits for itself and for those of all other quarters.
        chance = random.Random(9)
        spots = [f"s{k}" for k in range(24)]
        ways = [(-1, -1), (-1, 1), (1, -1), (1, 1)]
        land = map_of(spots, [Road(f"r{k}", "s0", "s0", ways[k % 4], 1) for k in range(24)])
        rows = []
        for spot in spots:
            conditions = ["if least 1 0 0 least 0 1 0 ", "if least 1 0 0 ", "if least 0 1 0 ", ""]
            rows.append(f"goal {spot}")
            rows += [f"at s0 {told}go r{4 * chance.randrange(6) + k}" for k, told in enumerate(conditions)]
        text = "\n".join(rows)
        pairs = near_pairs(land, sections_of(land, text), 3)
        self.assertGreater(len(pairs), 160)
        self.assertEqual(error_of(waits_of, Table(land, text)), (TooMany, "roads", len(pairs), 160))
        self.assertEqual(len(prices_from(land, ("s0", 0, 0), 0)), 1)


if __name__ == "__main__":
    unittest.main()

import random
import unittest

from alljourneys.atlases import Atlas
from alljourneys.errors import BadJourney, BadPlace, NoSpot
from alljourneys.fans import Fan, fan_holds
from alljourneys.maps import Map
from alljourneys.papers import Floor, Paper, floor_holds, paper_holds
from alljourneys.routes import gone
from alljourneys.sheets import Sheet

from helpers import ODD_VALUES, Odd, has_piece, leaves
from lands import error_of
from test_journeys import NO_PLACES

LAND = Map("spot a\nspot b\nroad r a b 1 -2 3 k\nroad s b a 0 5 7\nroad t a a -1 0 2 l\nroad u b b 0 1 4")


def tree_is_right(sheet, sheets, tree):
    """Whether a tree holds, by the words of the document."""
    ends = leaves(len(sheet.steps), tree)
    return ends is not None and all(node[0] == "end" and has_piece(sheet, sheets[node[1]], base, directions)
                                    for base, directions, node in ends)


def covers_are_right(land, parts, covers):
    """Whether covers prove parts, as tuples (spot, sheet), by the words of the document."""
    for (spot, sheet), trees in zip(parts, covers, strict=True):
        for road, tree in zip(land.roads_from(spot), trees, strict=True):
            base = (sheet.base[0] + road.shift[0], sheet.base[1] + road.shift[1])
            moved = Sheet(base, sheet.price + road.price, sheet.steps, sheet.prices)
            if not tree_is_right(moved, [other for place, other in parts if place == road.end], tree):
                return False
    return True


def sums(land, journey):
    roads = [land.road_named(name) for name in journey]
    return ((sum(road.shift[0] for road in roads), sum(road.shift[1] for road in roads)),
            sum(road.price for road in roads), [road.start for road in roads], [road.end for road in roads])


def fan_is_right(land, start, fan):
    """Whether a fan of right kinds holds, by the words of the document."""
    shift, price, starts, ends = sums(land, fan.journey)
    stops = [start] + ends
    if starts != stops[:-1] or (stops[-1], shift, price) != (fan.spot, fan.sheet.base, fan.sheet.price):
        return False
    if len(fan.rounds) != len(fan.sheet.steps):
        return False
    for (at, loop), step, more in zip(fan.rounds, fan.sheet.steps, fan.sheet.prices):
        shift, price, starts, ends = sums(land, loop)
        if not loop or starts != [stops[at]] + ends[:-1] or ends[-1] != stops[at] or (shift, price) != (step, more):
            return False
    return True


def paper_is_right(land, paper):
    """Whether a paper of right kinds holds, by the words of the document."""
    parts = [(fan.spot, fan.sheet) for fan in paper.fans]
    begun = any(spot == paper.start and (0, 0) in sheet and sheet.price_at((0, 0)) <= 0 for spot, sheet in parts)
    return (begun and all(fan_is_right(land, paper.start, fan) for fan in paper.fans)
            and covers_are_right(land, parts, paper.covers))


class RouteTest(unittest.TestCase):
    def test_gone(self):
        """[44] Legs are gone in their order, each so many times."""
        start = ("a", 10, 20)
        self.assertEqual(gone(LAND, start, []), (start, 0))
        self.assertEqual(gone(LAND, start, ()), (start, 0))
        legs = [(("r",), 1), (("u", "u"), 2), (("s", "r"), 3)]
        self.assertEqual(gone(LAND, start, legs), (("b", 14, 31), 49))
        times = 10 ** 60
        self.assertEqual(gone(LAND, start, [(("r", "s", "t"), times)]), (("a", 10, 20 + 3 * times), 12 * times))
        far = ("b", 10 ** 399, -10 ** 399)
        self.assertEqual(gone(LAND, far, ((("u",), times),)), (("b", 10 ** 399, times - 10 ** 399), 4 * times))

    def test_wrong_legs(self):
        """[44] Any values as items: the first one that is no leg is told."""
        good = (("t",), 2)
        for leg in (None, 1, "t", (), ("t", 1), (("t",),), (("t",), 1, 1), [("t",), 1], (["t"], 1), ((), 1), (("t",), 0),
                    (("t",), -1), (("t",), True), (("t",), False), (("t",), "1"), (("t",), None), (("s",), 1),
                    (("r",), 2), (("t", "u"), 1), (("r", "r"), 1), (("z",), 1), ((None,), 1), ((["t"],), 1),
                    (("t", Odd()), 1), (Odd(), 1), (("t",), Odd()), Odd(), {}, (("t",), 1.0), (("r", "s"), ())):
            self.assertEqual(error_of(gone, LAND, ("a", 0, 0), [leg, None]), (BadJourney, 0), leg)
            self.assertEqual(error_of(gone, LAND, ("a", 0, 0), (good, good, leg)), (BadJourney, 2), leg)
        self.assertEqual(error_of(gone, LAND, ("a", 0, 0), [(("r",), 1), good]), (BadJourney, 1))
        for place in NO_PLACES:
            self.assertEqual(error_of(gone, LAND, place, [None]), (BadPlace, "start"))
        self.assertEqual(error_of(gone, LAND, ("x", 0, 0), [None]), (NoSpot, "x"))


class FanTest(unittest.TestCase):
    def test_holds(self):
        """[45] [46] Fans that hold, and what each part of them must be."""
        sheet = Sheet((1, -2), 3, ((-1, 0), (0, 1)), (2, 4))
        good = Fan("b", sheet, ("r",), ((0, ("t",)), (1, ("u",))))
        self.assertIs(fan_holds(LAND, "a", good), True)
        self.assertTrue(fan_holds(LAND, "a", Fan("a", Sheet((0, 0), 0), (), ())))
        self.assertTrue(fan_holds(LAND, "b", Fan("b", Sheet((1, 3), 10, ((1, 3),), (10,)), ("s", "r"), ((2, ("s", "r")),))))
        self.assertTrue(fan_holds(LAND, "b", Fan("b", Sheet((1, 3), 10, ((1, 3),), (10,)), ("s", "r"), ((1, ("r", "s")),))))
        wrong = [Fan("a", sheet, good.journey, good.rounds), Fan(None, sheet, good.journey, good.rounds),
                 Fan("b", sheet, ["r"], good.rounds), Fan("b", sheet, ("r", "u"), good.rounds),
                 Fan("b", sheet, ("u",), good.rounds), Fan("b", sheet, (), good.rounds),
                 Fan("b", sheet.moved((1, 0), 0), good.journey, good.rounds),
                 Fan("b", sheet.moved((0, 0), 1), good.journey, good.rounds),
                 Fan("b", sheet.moved((0, 0), -1), good.journey, good.rounds),
                 Fan("b", Sheet((1, -2), 3, sheet.steps, (3, 4)), good.journey, good.rounds),
                 Fan("b", Sheet((1, -2), 3, sheet.steps[::-1], (4, 2)), good.journey, good.rounds),
                 Fan("b", Sheet((1, -2), 3, sheet.steps[:1], (2,)), good.journey, good.rounds),
                 Fan("b", Sheet([1, -2], 3, sheet.steps, (2, 4)), good.journey, good.rounds)]
        for rounds in (good.rounds[:1], good.rounds + good.rounds[:1], list(good.rounds), good.rounds[::-1], (),
                       ((1, ("t",)), good.rounds[1]), (good.rounds[0], (0, ("u",))), ((False, ("t",)), good.rounds[1]),
                       (good.rounds[0], (True, ("u",))), (good.rounds[0], (2, ("u",))), (good.rounds[0], (-1, ("u",))),
                       ((0, ["t"]), good.rounds[1]), ([0, ("t",)], good.rounds[1]), ((0, ("t", "t")), good.rounds[1]),
                       ((0, ()), good.rounds[1]), ((0, ("r",)), good.rounds[1]), ((0, ("t",), 0), good.rounds[1]),
                       (None, good.rounds[1]), ((0, (None,)), good.rounds[1]), ((0, (["t"],)), good.rounds[1])):
            wrong.append(Fan("b", sheet, good.journey, rounds))
        for value in ODD_VALUES:
            wrong += [value, Fan(value, sheet, good.journey, good.rounds), Fan("b", value, good.journey, good.rounds),
                      Fan("b", sheet, value, good.rounds), Fan("b", sheet, good.journey, value),
                      Fan("b", sheet, (value,), good.rounds), Fan("b", sheet, good.journey, (value, good.rounds[1])),
                      Fan("b", sheet, good.journey, ((value, ("t",)), good.rounds[1])) if value != 0 or value is False
                      else None]
        for fan in wrong:
            self.assertIs(fan_holds(LAND, "a", fan), False)
        kept = object()
        self.assertIs(Fan(kept, 1, 2, 3).spot, kept)
        for spot in ("z", None, 0, ["a"], Odd()):
            self.assertEqual(error_of(fan_holds, LAND, spot, good)[0], NoSpot)

    def test_atlas(self):
        """[45] [49] The fans of an atlas hold for their own start."""
        for start in LAND.spots:
            for fan in Atlas(LAND).fans_from(start):
                self.assertTrue(fan_is_right(LAND, start, fan))


class PaperTest(unittest.TestCase):
    def setUp(self):
        self.paper = Atlas(LAND).paper("a")

    def changed(self, chance, paper):
        """Papers with one part changed."""
        for index, trees in enumerate(paper.covers):
            for at, tree in enumerate(trees):
                k = chance.randrange(len(tree))
                for node in (("end", 0), ("end", len(paper.fans)), ("end", True), ("peel", 1), ("turn",), ["end", 0], None,
                             ("end", -1)):
                    new = tree[:k] + (node,) + tree[k + 1:]
                    covers = (*paper.covers[:index], (*trees[:at], new, *trees[at + 1:]), *paper.covers[index + 1:])
                    yield Paper(paper.start, paper.fans, covers)
            for new in (trees[:-1], trees + trees[:1], list(trees), None):
                covers = (*paper.covers[:index], new, *paper.covers[index + 1:])
                if new != trees:
                    yield Paper(paper.start, paper.fans, covers)
        for index in range(len(paper.fans)):
            yield Paper(paper.start, paper.fans[:index] + paper.fans[index + 1:], paper.covers)
            yield Paper(paper.start, paper.fans[:index] + paper.fans[index + 1:],
                        paper.covers[:index] + paper.covers[index + 1:])

    def is_well_made(self, paper):
        return (type(paper.covers) is tuple and len(paper.covers) == len(paper.fans)
                and all(type(trees) is tuple for trees in paper.covers)
                and all(type(node) is tuple and type(node[-1]) is not bool for trees in paper.covers for tree in trees
                        for node in tree))

    def judge_changed(self, paper):
        if not self.is_well_made(paper):
            return False
        try:
            return paper_is_right(LAND, paper)
        except (IndexError, ValueError):
            return False

    def test_changed(self):
        """[47] With one part changed, a paper holds only if the sums say so."""
        self.assertIs(paper_holds(LAND, self.paper), True)
        answers = set()
        for paper in self.changed(random.Random(2), self.paper):
            if any(node == ("end", -1) for trees in paper.covers or () for tree in trees or () for node in tree):
                self.assertIs(paper_holds(LAND, paper), False)
                continue
            answer = self.judge_changed(paper)
            self.assertIs(paper_holds(LAND, paper), answer)
            answers.add(answer)
        self.assertEqual(answers, {True, False})

    def test_wrong(self):
        """[47] Any values, also within."""
        paper = self.paper
        wrong = [Paper("b", paper.fans, paper.covers), Paper("z", paper.fans, paper.covers),
                 Paper("a", list(paper.fans), paper.covers), Paper("a", paper.fans, list(paper.covers)),
                 Paper("a", paper.fans[1:], paper.covers[1:]), Paper("a", (), ()), Floor("a", paper.fans, paper.covers)]
        for value in ODD_VALUES:
            wrong += [value, Paper(value, paper.fans, paper.covers), Paper("a", value, paper.covers),
                      Paper("a", paper.fans, value), Paper("a", (value,) + paper.fans[1:], paper.covers),
                      Paper("a", paper.fans, (value,) + paper.covers[1:]),
                      Paper("a", paper.fans, ((value,) + paper.covers[0][1:],) + paper.covers[1:])]
        for value in wrong:
            self.assertIs(paper_holds(LAND, value), False)
        self.assertFalse(paper_holds(Map(LAND.text.replace("7", "6")), paper))

    def test_no_start(self):
        """[47] Some fan must have the start for at most 0."""
        land = Map("spot a\nroad r a a 1 0 1\nroad s a a -1 0 1")
        both = Fan("a", Sheet((1, 0), 1, ((1, 0),), (1,)), ("r",), ((0, ("r",)),))
        back = Fan("a", Sheet((1, 0), 1, ((-1, 0),), (1,)), ("r",), ((0, ("s",)),))
        self.assertTrue(fan_holds(land, "a", both) and fan_holds(land, "a", back))
        self.assertFalse(paper_holds(land, Paper("a", (both, back), (((("end", 0),),) * 2, ((("end", 1),),) * 2))))

    def floor(self):
        return Floor("a", tuple((fan.spot, fan.sheet) for fan in self.paper.fans), self.paper.covers)

    def test_floor(self):
        """[48] A floor needs no journeys, and may be below all prices."""
        floor = self.floor()
        self.assertIs(floor_holds(LAND, floor), True)
        lower = tuple((spot, sheet.moved((0, 0), -5)) for spot, sheet in floor.parts)
        self.assertTrue(floor_holds(LAND, Floor("a", lower, floor.covers)))
        higher = tuple((spot, sheet.moved((0, 0), 1)) for spot, sheet in floor.parts)
        self.assertFalse(floor_holds(LAND, Floor("a", higher, floor.covers)))
        wide = Map("spot a\nspot b\nroad r a a 1 0 2\nroad s a a -1 0 2\nroad t a a 0 1 2")
        half = [("a", Sheet((0, 0), 0, (step, (0, 1)), (2, 1))) for step in ((1, 0), (-1, 0))]
        covers = (((("end", 0),), (("peel", 1), ("end", 1), ("end", 0)), (("end", 0),)),
                  ((("peel", 1), ("end", 0), ("end", 1)), (("end", 1),), (("end", 1),)))
        self.assertTrue(floor_holds(wide, Floor("a", tuple(half), covers)))
        self.assertTrue(covers_are_right(wide, half, covers))
        cheap = [half[0], ("a", Sheet((0, 0), 0, ((-1, 0), (0, 1)), (2, 3)))]
        self.assertFalse(floor_holds(wide, Floor("a", tuple(cheap), covers)))

    def test_wrong_floors(self):
        """[48] Any values, also within."""
        floor = self.floor()
        first = floor.parts[0]
        wrong = [Floor("b", floor.parts, floor.covers), Floor("a", list(floor.parts), floor.covers),
                 Floor("a", floor.parts, list(floor.covers)), Floor("a", (), ()), self.paper,
                 Floor("a", floor.parts[1:], floor.covers[1:]), Floor("a", (list(first),) + floor.parts[1:], floor.covers),
                 Floor("a", (first + (0,),) + floor.parts[1:], floor.covers),
                 Floor("a", (("z", first[1]),) + floor.parts[1:], floor.covers),
                 Floor("a", ((True, first[1]),) + floor.parts[1:], floor.covers)]
        for value in ODD_VALUES:
            wrong += [value, Floor(value, floor.parts, floor.covers), Floor("a", value, floor.covers),
                      Floor("a", floor.parts, value), Floor("a", (value,) + floor.parts[1:], floor.covers),
                      Floor("a", ((first[0], value),) + floor.parts[1:], floor.covers),
                      Floor("a", floor.parts, (value,) + floor.covers[1:])]
        for value in wrong:
            self.assertIs(floor_holds(LAND, value), False)


if __name__ == "__main__":
    unittest.main()

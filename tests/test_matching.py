import random
import unittest

from alljourneys.building import recounted, repriced, sheared, widened, with_road, without
from alljourneys.errors import BadJourney, BadNumber, BadPlace, NoRoad, NoSpot, Unlike
from alljourneys.journeys import ended
from alljourneys.maps import Map, map_of
from alljourneys.matching import Matching, carried, mismatch, partner, widening

from helpers import Odd
from lands import error_of, random_journey, random_land
from test_journeys import NO_PLACES

LAND = Map("spot a\nspot b\nroad r a b 1 -2 3 l\nroad s b a 0 5 7\nroad a a a -1 0 2\nroad t a b 1 -2 3 l")
SAME = Matching(((1, 0), (0, 1)), {"a": ("a", 0, 0), "b": ("b", 0, 0)})


class MatchingTest(unittest.TestCase):
    def test_attributes(self):
        """[25] Attributes, copies, ==."""
        spots = {"a": ("b", 1, 2)}
        one = Matching([[1, 2], [3, 4]], spots)
        spots["a"] = ("x", 0, 0)
        self.assertEqual((one.matrix, one.spots), (((1, 2), (3, 4)), {"a": ("b", 1, 2)}))
        self.assertTrue(type(one.matrix) is tuple and all(type(row) is tuple for row in one.matrix))
        self.assertTrue(one == Matching(((1, 2), (3, 4)), {"a": ("b", 1, 2)}))
        for other in (Matching(((1, 2), (3, 5)), one.spots), Matching(one.matrix, {"a": ("b", 1, 3)}),
                      Matching(one.matrix, {}), None, Odd()):
            self.assertFalse(one == other)

    def test_image(self):
        """[25] The image of a place."""
        one = Matching(((1, 2), (3, 4)), {"a": ("b", 10, 20), "": ("", 0, 0)})
        self.assertEqual(one.image(("a", 0, 0)), ("b", 10, 20))
        self.assertEqual(one.image(("a", 1, -1)), ("b", 9, 19))
        for place in NO_PLACES:
            self.assertEqual(error_of(one.image, place), (BadPlace, "place"))
        self.assertEqual(error_of(one.image, ("b", 0, 0)), (NoSpot, "b"))

    def test_then(self):
        """[25] One behind the other."""
        chance = random.Random(25)
        for _ in range(50):
            one, other = [Matching([[chance.randint(-4, 4) for _ in range(2)] for _ in range(2)],
                                   {name: (chance.choice("xyz"), chance.randint(-9, 9), chance.randint(-9, 9))
                                    for name in "xyz"}) for _ in range(2)]
            both = one.then(other)
            for name in "xyz":
                place = (name, chance.randint(-9, 9), chance.randint(-9, 9))
                self.assertEqual(both.image(place), other.image(one.image(place)))
        one = Matching(((1, 0), (0, 1)), {"c": ("u", 0, 0), "b": ("v", 0, 0), "a": ("w", 0, 0)})
        self.assertEqual(error_of(one.then, Matching(one.matrix, {"w": ("w", 0, 0)})), (NoSpot, "v"))
        self.assertEqual(error_of(one.then, Matching(one.matrix, {})), (NoSpot, "w"))

    def test_errors(self):
        """[27] The errors of mismatch, in their order, for all three functions."""
        spots = {"a": ("a", 0, 0), "b": ("b", 0, 0)}
        naught = ((1, 2), (2, 4))
        for matching, error in (
                (Matching(naught, {"b": ("x", 0, 0)}), (NoSpot, "a")),
                (Matching(naught, {"a": ("x", 0, 0)}), (NoSpot, "b")),
                (Matching(naught, {"a": ("x", 0, 0), "b": ("y", 0, 0)}), (NoSpot, "x")),
                (Matching(naught, {"a": ("b", 0, 0), "b": ("y", 0, 0)}), (NoSpot, "y")),
                (Matching(naught, spots), (BadNumber, "matrix", 0)),
                (Matching(((2, 0), (0, 1)), spots), (Unlike, "places")),
                (Matching(((1, 0), (0, 1)), {"a": ("a", 0, 0), "b": ("a", 0, 0)}), (Unlike, "places"))):
            self.assertEqual(error_of(mismatch, LAND, LAND, matching), error)
            self.assertEqual(error_of(partner, LAND, LAND, matching, None), error)
            self.assertEqual(error_of(carried, LAND, LAND, matching, ("a", 0, 0), [None]), error)
            for place in NO_PLACES:
                self.assertEqual(error_of(carried, LAND, LAND, matching, place, [None]), (BadPlace, "start"))
            self.assertEqual(error_of(carried, LAND, LAND, matching, ("x", 0, 0), [None]), (NoSpot, "x"))
        more = Matching(SAME.matrix, {**SAME.spots, "x": ("y", 0, 0)})
        self.assertIsNone(mismatch(LAND, LAND, more))
        small = Map("spot a")
        self.assertEqual(error_of(mismatch, LAND, small, SAME), (NoSpot, "b"))
        self.assertEqual(error_of(mismatch, small, LAND, SAME), (Unlike, "places"))

    def test_fits(self):
        """[26] Each place is the image of exactly one place: as many remainders as the determinant, all different."""
        pair, one = map_of(["a", "b"], []), map_of(["a"], [])
        for matrix, second, right in (
                (((2, 0), (0, 1)), (1, 0), True), (((2, 0), (0, 1)), (3, 7), True), (((2, 0), (0, 1)), (2, 7), False),
                (((1, 1), (1, -1)), (1, 0), True), (((1, 1), (1, -1)), (1, 1), False),
                (((1, 0), (0, 1)), (1, 0), False),
                (((0, -1), (2, 5)), (4, 3), True), (((0, -1), (2, 5)), (3, 5), False),
                (((3, 0), (0, 1)), (1, 0), False)):
            matching = Matching(matrix, {"a": ("a", 0, 0), "b": ("a",) + second})
            self.assertEqual(error_of(mismatch, pair, one, matching), None if right else (Unlike, "places"))

    def test_mismatch(self):
        """[26] [27] The first road without a partner."""
        self.assertIsNone(mismatch(LAND, LAND, SAME))
        self.assertEqual(mismatch(LAND, without(LAND, ["r"]), SAME), (0, "t"))
        self.assertEqual(mismatch(without(LAND, ["t"]), LAND, SAME), (1, "t"))
        self.assertEqual(mismatch(without(LAND, ["a", "s"]), without(LAND, ["s"]), SAME), (1, "a"))
        self.assertEqual(mismatch(LAND, repriced(LAND, "s", 8), SAME), (0, "s"))
        self.assertEqual(mismatch(LAND, with_road(LAND, "road u b b 0 0 1"), SAME), (1, "u"))
        self.assertEqual(mismatch(LAND, recounted(LAND, "b", (1, 0)), SAME), (0, "r"))
        changed = Map(LAND.text.replace(" l\n", " m\n", 1))
        self.assertEqual(mismatch(LAND, changed, SAME), (0, "t"))
        self.assertEqual(mismatch(LAND, recounted(LAND, "b", (1, 0)), Matching(SAME.matrix, {
            "a": ("a", 0, 0), "b": ("b", -1, 0)})), None)

    def test_partner(self):
        """[26] [27] The first alike road is the partner of the first one."""
        self.assertEqual([partner(LAND, LAND, SAME, name) for name in "rsat"], ["r", "s", "a", "t"])
        rows = LAND.text.split("\n")
        other = Map("\n".join(rows[:2] + [rows[5], rows[4], rows[3], rows[2]]))
        self.assertEqual([partner(LAND, other, SAME, name) for name in "rsat"], ["t", "s", "a", "r"])
        for value in ("b", None, 1, ["r"]):
            self.assertEqual(error_of(partner, LAND, LAND, SAME, value), (NoRoad, value))
            self.assertEqual(error_of(partner, LAND, without(LAND, ["r"]), SAME, value), (Unlike, "roads"))

    def test_carried(self):
        """[27] Journeys are carried; the errors of their items."""
        self.assertEqual(carried(LAND, LAND, SAME, ("a", 3, 4), ["r", "s"]), (("a", 3, 4), ("r", "s")))
        self.assertEqual(error_of(carried, LAND, without(LAND, ["r"]), SAME, ("a", 3, 4), [None]), (Unlike, "roads"))
        for value in ("s", "x", None, 1, ["r"], Odd()):
            self.assertEqual(error_of(carried, LAND, LAND, SAME, ("a", 3, 4), ["a", value]), (BadJourney, 1))

    def test_widening(self):
        """[28] The widened map is the same one; so is one that is sheared and recounted."""
        chance = random.Random(28)
        for _ in range(60):
            land = random_land(chance)
            matrix = tuple(tuple(chance.randint(-2, 2) for _ in range(2)) for _ in range(2))
            (a, b), (c, d) = matrix
            if a * d == b * c:
                self.assertEqual(error_of(widening, land, matrix), (BadNumber, "matrix", 0))
                continue
            wide, matching = widened(land, matrix), widening(land, matrix)
            self.assertEqual(matching.matrix, matrix)
            self.assertIsNone(mismatch(wide, land, matching))
            self.judge_carried(chance, wide, land, matching)
            other = recounted(sheared(land, ((1, 1), (0, 1))), "c", (2, -1))
            moved = Matching(((1, 1), (0, 1)), {"a": ("a", 0, 0), "b": ("b", 0, 0), "c": ("c", -2, 1)})
            self.judge_carried(chance, land, other, moved)
            self.judge_carried(chance, wide, other, matching.then(moved))

    def judge_carried(self, chance, one, other, matching):
        spot = chance.choice(one.spots)
        start = (spot, chance.randint(-5, 5), chance.randint(-5, 5))
        journey = random_journey(chance, one, spot, 7)
        place, names = carried(one, other, matching, start, journey)
        self.assertEqual(place, matching.image(start))
        end, price = ended(one, start, journey)
        self.assertEqual(ended(other, place, names), (matching.image(end), price))
        self.assertIs(type(names), tuple)


if __name__ == "__main__":
    unittest.main()

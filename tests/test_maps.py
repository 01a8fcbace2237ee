import random
import unittest

from alljourneys.errors import BadName, BadNumber, BadText, JourneyError, NoRoad, NoSpot, TakenName, TooLarge, TooMany
from alljourneys.maps import Map, Road, map_of

from helpers import Odd
from texts import is_map, where

TEXT = """spot a
spot bc
road r a bc 1 -9 5
road a bc a 0 9 99 label.2x
road s a a -1 0 10 r
"""


def fields(error):
    return (type(error),) + tuple(vars(error).values())


def error_of(call, *values):
    """The error that a call raises, as a tuple of its class and its fields; None if it raises none."""
    try:
        call(*values)
    except JourneyError as error:
        return fields(error)
    return None


def column_of(text):
    error = error_of(Map, text)
    return None if error is None else error[1:]


class MapTest(unittest.TestCase):
    def test_road(self):
        """[17] Any values, kept as they are; == compares all six."""
        values = [["a"], None, (), [1, 2], True, {}]
        road = Road(*values)
        for name, value in zip(("name", "start", "end", "shift", "price", "label"), values):
            self.assertIs(getattr(road, name), value)
        self.assertIsNone(Road("r", "a", "b", (0, 0), 1).label)
        base = ["r", "a", "b", (1, 2), 3, None]
        self.assertTrue(Road(*base) == Road(*base[:5]))
        for at, other in enumerate(("s", "b", "a", (2, 1), 4, "l")):
            self.assertFalse(Road(*base) == Road(*(base[:at] + [other] + base[at + 1:])))
        for other in (None, tuple(base), Odd()):
            self.assertFalse(Road(*base) == other)

    def test_map(self):
        """[17] to [19] The attributes and methods of a map."""
        land = Map(TEXT)
        self.assertEqual(land.text, TEXT)
        self.assertEqual(land.spots, ("a", "bc"))
        self.assertIs(type(land.roads), tuple)
        self.assertTrue(land.roads == (Road("r", "a", "bc", (1, -9), 5), Road("a", "bc", "a", (0, 9), 99, "label.2x"),
                                       Road("s", "a", "a", (-1, 0), 10, "r")))
        self.assertTrue(all(type(road.shift) is tuple for road in land.roads))
        self.assertTrue(land.road_named("a") == land.roads[1])
        self.assertTrue(land.roads_from("a") == (land.roads[0], land.roads[2]))
        self.assertEqual(Map("spot q").roads_from("q"), ())
        for value in ("bc", "", None, 1, ["r"], ("r",), {}):
            self.assertEqual(error_of(land.road_named, value), (NoRoad, value))
        for value in ("r", "", None, 1, ["a"], ("a",), {}):
            self.assertEqual(error_of(land.roads_from, value), (NoSpot, value))

    def test_equal(self):
        """[19] == compares the text without what means nothing."""
        land = Map(TEXT)
        self.assertTrue(land == Map("\n\n  " + TEXT.replace(" ", "   ").replace("\n", "  \n \n")))
        self.assertEqual(Map("  spot   a  ").text, "spot a\n")
        for other in (Map(TEXT.replace("99", "98")), Map("spot a"), TEXT, None, Odd()):
            self.assertFalse(land == other)

    def test_wrong_texts(self):
        """[18] [19] Where the right beginning ends."""
        long = "a" * 40
        for text, place in (
                ("", (1, 1)), ("\n", (2, 1)), ("   ", (1, 4)), ("s", (1, 2)), ("spot", (1, 5)), ("spot ", (1, 6)),
                ("road", (1, 1)), ("Spot a", (1, 1)), ("sp ot a", (1, 3)), ("spotty", (1, 5)), ("spot a b", (1, 8)),
                ("spot 1a", (1, 6)), ("spot .a", (1, 6)), ("spot a..b", (1, 8)), ("spot a.", (1, 8)),
                ("spot a. ", (1, 8)), ("spot a.\nspot b", (1, 8)), ("spot A", (1, 6)), ("spot a-", (1, 7)),
                ("spot a\t", (1, 7)), ("spot a\r\n", (1, 7)), ("spot \u00e9", (1, 6)), ("spot a\u0660", (1, 7)),
                ("spot " + long + "a", (1, 46)), ("spot " + long[:39] + ".", (1, 45)),
                ("spot " + long[:39] + ".a", (1, 45)),
                ("spot a\nspot a", (2, 7)), ("spot a\nspot a\n", (2, 7)), ("spot a\nspot a ", (2, 7)),
                ("spot a\nspot aB", (2, 7)), ("spot a\nspot a.", (2, 8)), ("spot a\nspot a. ", (2, 8)),
                ("spot ab\nspot a", None), ("spot a\nspot ab", None), ("spot a\nspot a.b", None),
                ("spot " + long + "\nspot " + long, (2, 46)), ("spot " + long + "\nspot " + long + "b", (2, 46)),
                ("spot a\nroad r a a 0 0 1\nspot b", (3, 1)), ("spot a\nroad r a a 0 0 1\nroad r", (3, 7)),
                ("spot a\nroad r a a 0 0 1\nroad r b", (3, 7)), ("spot a\nroad spot a a 0 0 1", None),
                ("spot a\nroad a a a 0 0 1", None), ("spot abc\nspot abd\nroad r abx", (3, 10)),
                ("spot abc\nspot abd\nroad r ab abc 0 0 1", (3, 10)),
                ("spot abc\nspot ab\nroad r ab abcd 0 0 1", (3, 14)),
                ("spot a\nroad r a a 10 0 1", (2, 13)), ("spot a\nroad r a a -9 -10 1", (2, 17)),
                ("spot a\nroad r a a -0 0 1", (2, 13)), ("spot a\nroad r a a +1 0 1", (2, 12)),
                ("spot a\nroad r a a 01 0 1", (2, 13)), ("spot a\nroad r a a - 0 1", (2, 13)),
                ("spot a\nroad r a a 0 0 0", (2, 16)), ("spot a\nroad r a a 0 0 -1", (2, 16)),
                ("spot a\nroad r a a 0 0 100", (2, 18)), ("spot a\nroad r a a 0 0 1 l m", (2, 20)),
                ("spot a\nroad r a a 0 0 1 l.", (2, 20)), ("spot a\nroad r a a 0 0 1 l.\n", (2, 20)),
                ("spot a\nroad r a a 0 0 1 9", (2, 18)), ("spot a\nroad r a a 0 0\n", (2, 15)),
                ("spot a\nroad r a a 0 0 1 " + long, None), ("spot a\nroad r a a 0 0 1 " + long + "a", (2, 58)),
                ("spot a\n\n x", (3, 2)), ("spot a\n  road  r\n", (2, 10))):
            self.assertEqual(column_of(text), place, text)

    def test_cut_off(self):
        """[19] A text that is cut off at each character is right, or too short."""
        for text in (TEXT, "  spot  a \n\n spot  b.c\n\n  road  r.1  a b.c  -9 9 99  lab.el  \n"):
            self.assertIsNone(column_of(text))
            for end in range(len(text)):
                start = text[:end]
                self.assertEqual(column_of(start), None if is_map(start) else where(start, end), start)

    def test_bounds(self):
        """[17] [18] 24 and 25 spots, 160 and 161 roads."""
        spots = "".join(f"spot s{k}\n" for k in range(24))
        roads = "".join(f"road r{k} s0 s1 0 0 1\n" for k in range(160))
        self.assertEqual(len(Map(spots + roads).roads), 160)
        self.assertEqual(column_of(spots + "  spot x"), (25, 3))
        self.assertEqual(column_of(spots + "  ro"), (25, 5))
        self.assertEqual(column_of(spots + roads + " road x s0 s0 0 0 1"), (185, 2))
        self.assertEqual(column_of(spots + roads + "\n  \nspot x"), (187, 1))
        self.assertIsNone(column_of(spots + roads + "\n  \n"))

    def test_random_edits(self):
        """[18] [19] Texts with a changed character: what is told can be completed, and nothing longer."""
        chance = random.Random(19)
        signs = "abrostd019.- \nAxl"
        ends = ["", "a", ".a", "t a", "ot a", "pot a", "spot zz", " zz", "oad zz a a 0 0 1", " a a 0 0 1", " a 0 0 1",
                "c 0 0 1", " 0 0 1", " 0 1", " 1", "1 0 1", "1 1", "9", "1", " bc 0 0 1", "bc 0 0 1", "c a 0 0 1",
                "ad zz a a 0 0 1", "d zz a a 0 0 1", " zz a a 0 0 1", "zz a a 0 0 1", "z a a 0 0 1", ".z a a 0 0 1",
                "z", ".z", "0 0 1", "a 0 0 1", "a a 0 0 1", "\nspot zz", "1 0 0 1"]
        judged = []
        for _ in range(1500):
            at = chance.randrange(len(TEXT))
            new = chance.choice(signs)
            text = TEXT[:at] + chance.choice(("", new, new + TEXT[at])) + TEXT[at + 1:]
            place = column_of(text)
            self.assertEqual(place is None, is_map(text), text)
            if place is None:
                continue
            lines = text.split("\n")
            end = sum(len(line) + 1 for line in lines[:place[0] - 1]) + place[1] - 1
            judged.append(any(is_map(text[:end] + more) for more in ends))
            if end < len(text) and text[end] != "\n":
                self.assertFalse([more for more in ends if is_map(text[:end + 1] + more)], (text, place))
        self.assertGreater(sum(judged), len(judged) * 9 // 10)

    def test_map_of(self):
        """[19] map_of makes the Map with these spots and roads, from lists and tuples."""
        land = Map(TEXT)
        self.assertTrue(map_of(land.spots, land.roads) == land)
        self.assertTrue(map_of(list(land.spots), list(land.roads)) == land)
        self.assertEqual(map_of(["a"], ()).text, "spot a\n")

    def test_errors_of_map_of(self):
        """[19] The errors, in their order."""
        self.assertEqual(error_of(map_of, [], [Road(1, 1, 1, 1, 1)] * 161), (BadNumber, "spots", 0))
        self.assertEqual(error_of(map_of, [None] * 25, [Road(1, 1, 1, 1, 1)] * 161), (TooMany, "spots", 25, 24))
        self.assertEqual(error_of(map_of, [None] * 24, [Road(1, 1, 1, 1, 1)] * 161), (TooMany, "roads", 161, 160))
        bad = Road("1", "x", "x", None, 0)
        for value in ("", "A", "1a", "a.", "a..b", "a" * 41, None, 1, ["a"], ("a",), {}, b"a", "a ", "a\n", "\u00e4"):
            self.assertEqual(error_of(map_of, ["b", value, "b"], [bad]), (BadName, value))
            self.assertEqual(error_of(map_of, ["a"], [Road(value, "x", "y", 0, 0)]), (BadName, value))
            self.assertEqual(error_of(map_of, ["a"], [Road("r", "a", "a", (0, 0), 1, value)]),
                             None if value is None else (BadName, value))
        self.assertIsNone(error_of(map_of, ["a" * 40, "a.b.0", "a1"], []))
        self.assertEqual(error_of(map_of, ["b", "c", "b", None], [bad]), (TakenName, "b"))
        good = Road("r", "a", "a", (0, 0), 1)
        self.assertEqual(error_of(map_of, ["a"], [good, Road("r", "x", "y", 0, 0)]), (TakenName, "r"))
        self.assertIsNone(error_of(map_of, ["a"], [good, Road("a", "a", "a", (9, -9), 99, "a")]))
        for start in ("x", None, ["a"], 1):
            self.assertEqual(error_of(map_of, ["a"], [Road("r", start, "y", 0, 0)]), (NoSpot, start))
            self.assertEqual(error_of(map_of, ["a"], [Road("r", "a", start, 0, 0)]), (NoSpot, start))
        for shift in (None, [0, 0], (0,), (0, 0, 0), (0, True), (0, "0"), 0, (0, 1.0)):
            self.assertEqual(error_of(map_of, ["a"], [Road("r", "a", "a", shift, 0)]), (BadNumber, "shift", shift))
        for shift, number in (((10, -11), 10), ((9, -10), -10), ((-9, 10 ** 60), 10 ** 60)):
            self.assertEqual(error_of(map_of, ["a"], [Road("r", "a", "a", shift, 0)]), (TooLarge, "shift", number, 9))
        for price in (0, -1, True, None, "1", [1], 1.0):
            roads = [Road("r", "a", "a", (0, 0), price, 1)]
            self.assertEqual(error_of(map_of, ["a"], roads), (BadNumber, "price", price))
        self.assertEqual(error_of(map_of, ["a"], [Road("r", "a", "a", (0, 0), 100, 1)]), (TooLarge, "price", 100, 99))
        self.assertEqual(error_of(map_of, ["a"], [Road("r", "a", "a", (0, 0), 1, 1), bad]), (BadName, 1))
        self.assertEqual(error_of(Map, "x"), (BadText, 1, 1))


if __name__ == "__main__":
    unittest.main()

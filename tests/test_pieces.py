import random
import unittest

from alljourneys.errors import BadName, BadText, TooLarge, TooMany
from alljourneys.maps import Map
from alljourneys.pieces import built

from lands import error_of, prices_from
from texts import where

PLAN = """ piece  one
spot a
spot  b
road r a b 1 2 3 lab.el
street s a a -1 0 99

piece two.x
use one as u
use one as v mirrored
use one as w turned 1
use one as x mirrored turned 3
spot a
spot b
road r a u.a 0 0 1
same u.a v.b 2 -3
same a b -9 9
"""


def rows(plan):
    return [(road.name, road.start, road.end, road.shift, road.price, road.label) for road in built(plan).roads]


class PlanTest(unittest.TestCase):
    def test_pieces(self):
        """[23] [24] The map of the last piece, with all kinds of lines."""
        land = built(PLAN)
        self.assertIsInstance(land, Map)
        self.assertEqual(land.spots, ("u.a", "u.b", "v.a", "w.a", "w.b", "x.a", "x.b", "a"))
        self.assertEqual(rows(PLAN), [
            ("u.r", "u.a", "u.b", (1, 2), 3, "lab.el"), ("u.s.to", "u.a", "u.a", (-1, 0), 99, None),
            ("u.s.fro", "u.a", "u.a", (1, 0), 99, None), ("v.r", "v.a", "u.a", (1, -1), 3, "lab.el"),
            ("v.s.to", "v.a", "v.a", (1, 0), 99, None), ("v.s.fro", "v.a", "v.a", (-1, 0), 99, None),
            ("w.r", "w.a", "w.b", (-2, 1), 3, "lab.el"), ("w.s.to", "w.a", "w.a", (0, -1), 99, None),
            ("w.s.fro", "w.a", "w.a", (0, 1), 99, None), ("x.r", "x.a", "x.b", (2, 1), 3, "lab.el"),
            ("x.s.to", "x.a", "x.a", (0, -1), 99, None), ("x.s.fro", "x.a", "x.a", (0, 1), 99, None),
            ("r", "a", "u.a", (0, 0), 1, None)])
        self.assertTrue(built("piece a\nspot a").text == "spot a\n")

    def test_turns(self):
        """[23] (x, y) becomes (-x, y) by mirrored, and then (-y, x) K times."""
        for words, shift in (("", (1, 2)), ("mirrored", (-1, 2)), ("turned 1", (-2, 1)), ("turned 2", (-1, -2)),
                             ("turned 3", (2, -1)), ("mirrored turned 1", (-2, -1)), ("mirrored turned 2", (1, -2)),
                             ("mirrored turned 3", (2, 1))):
            plan = "piece p\nspot a\nroad r a a 1 2 3\npiece q\nuse p as turned " + words
            self.assertEqual(rows(plan), [("turned.r", "turned.a", "turned.a", shift, 3, None)])

    def test_same(self):
        """[23] Two spots become one; all roads lead between the same places."""
        base = ("piece p\nspot a\nspot b\nspot c\n"
                "road ab a b 1 0 1\nroad ba b a 0 1 2\nroad bb b b 2 2 3\nroad bc b c 0 0 4\n")
        plan = base + "same a b 3 -1"
        self.assertEqual([(row[0], row[1], row[2], row[3]) for row in rows(plan)], [
            ("ab", "a", "a", (4, -1)), ("ba", "a", "a", (-3, 2)), ("bb", "a", "a", (2, 2)), ("bc", "a", "c", (-3, 1))])
        self.assertEqual(built(plan).spots, ("a", "c"))
        chance = random.Random(23)
        for _ in range(30):
            x, y = chance.randint(-4, 4), chance.randint(-4, 4)
            one = Map(built(base).text + f"road one a b {-x} {-y} 1\nroad other b a {x} {y} 1")
            other = built(base + f"same a b {x} {y}")
            apart = prices_from(one, ("a", 0, 0), 12)
            united = prices_from(other, ("a", 0, 0), 6)
            for (spot, p, q), price in united.items():
                self.assertLessEqual(price, apart.get((spot, p, q), 99))
                self.assertIn((spot, p, q), apart)

    def test_names(self):
        """[23] Which names are new, and which spots a line can name."""
        start = "piece p\nspot a\nspot b\nroad r a b 0 0 1\nstreet s a b 0 0 1\npiece q\nspot c\nuse p as u\n"
        for line, column in (("spot c", 7), ("spot u", 7), ("spot a", None), ("spot s", None), ("spot p", None),
                             ("spot r", None), ("spot u.a", 7), ("road c c c 0 0 1", 7), ("street u", 9),
                             ("road x a", 8), ("road x u.a u.c", 14), ("road x u.a u.b 0 0 1", None), ("use q", 5),
                             ("use p as u", 11), ("use p as c", 11), ("use p as x.y", 11), ("use p s", 7),
                             ("use p as x m", 13), ("use p as x mirrored mirrored", 21), ("use p as x turned", 18),
                             ("use p as x turned 0", 19), ("use p as x turned 4", 19), ("use p as x turned 1 m", 21),
                             ("use p as x turned 1 2", 21), ("use p as x turned mirrored", 19),
                             ("use p as x mirrored turned 3", None), ("same c c", 8), ("same u.a u.b 10 0", 15),
                             ("same u.a u.b 0", 15), ("same u.a u.b 0 0 0", 18), ("piece p", 8), ("piece q", 8),
                             ("spot " + "a" * 41, 46), ("street x c c 0 0 1 l.m", None), ("street x c c 0 0 1 l m", 22),
                             ("last", 1), ("Spot", 1)):
            error = None if column is None else (BadText, 9, column)
            self.assertEqual(error_of(built, start + line), error, line)
        gone = start + "same u.a u.b 0 0\nsame c u.a 1 1\n"
        for line, column in (("road x u.a", 8), ("road x u.b", 8), ("spot u", 7), ("same c", 2)):
            self.assertEqual(error_of(built, gone + line), (BadText, 11, column), line)
        freed = "piece p\nspot a\nspot b\nsame a b 0 0\nspot b\nroad x a b 0 0 1\nspot x"
        self.assertEqual(error_of(built, freed), (BadText, 7, 7))
        self.assertEqual(error_of(built, "piece p.q\nspot a\npiece p.q"), (BadText, 3, 10))
        self.assertEqual(built("piece p.q\nspot a\npiece r\nuse p.q as x").spots, ("x.a",))

    def test_heads(self):
        """[24] What a line can begin with."""
        for plan, place in (("", (1, 1)), ("\n \n", (3, 1)), ("spot a", (1, 1)), ("pieces", (1, 6)),
                            ("piece a", (1, 8)),
                            ("piece a\nroad", (2, 1)), ("piece a\nstreet", (2, 2)), ("piece a\nsame", (2, 2)),
                            ("piece a\nuse", (2, 1)), ("piece a\nspot b\nuse", (3, 1)),
                            ("piece a\nspot b\nsame", (3, 2)),
                            ("piece a\nspot b\npiece c", (3, 8)), ("piece a\nspot b\npiece c\n", (4, 1)),
                            ("piece a\npiece b\nuse a as x", (3, 11)),
                            ("piece a\npiece b\nuse a as x\nspot c", None),
                            ("piece a\nspot b\nspot b", (3, 7)),
                            ("piece a\nspot b b", (2, 8)), ("piece a\nspot b.c", (2, 7)), ("piece a b", (1, 9))):
            self.assertEqual(error_of(built, plan), None if place is None else (BadText,) + place, plan)

    def test_cut_off(self):
        """[24] A plan that is cut off at each character is right, or too short."""
        good = 0
        for end in range(len(PLAN) + 1):
            error = error_of(built, PLAN[:end])
            good += error is None
            self.assertIn(error, (None, (BadText,) + where(PLAN, end)))
        self.assertGreater(good, 40)
        self.assertLess(good, 120)

    def test_too_large(self):
        """[24] Too many spots and roads, long names, far shifts: the first wrong line first."""
        spots = "piece p\n" + "".join(f"spot s{k}\n" for k in range(24))
        self.assertEqual(len(built(spots).spots), 24)
        self.assertEqual(error_of(built, spots + "spot x\nwrong"), (TooMany, "spots", 25, 24))
        self.assertEqual(error_of(built, spots + "wrong\nspot x"), (BadText, 26, 1))
        self.assertEqual(error_of(built, spots + "piece q\nspot a\nuse p as x"), (TooMany, "spots", 25, 24))
        roads = "piece p\nspot a\n" + "".join(f"street r{k} a a 9 9 1\n" for k in range(80))
        self.assertEqual(len(built(roads).roads), 160)
        self.assertEqual(error_of(built, roads + "road x a a 0 0 1\n\n-"), (TooMany, "roads", 161, 160))
        self.assertEqual(error_of(built, roads + "street x a a 0 0 1"), (TooMany, "roads", 162, 160))
        self.assertEqual(error_of(built, roads + "piece q\nspot a\nuse p as x\nspot b\nuse p as y"),
                         (TooMany, "roads", 320, 160))
        name = "a" * 38
        self.assertEqual(error_of(built, f"piece p\nspot a\nstreet {name} a a 0 0 1"), (BadName, name + ".to"))
        self.assertIsNone(error_of(built, f"piece p\nspot a\nstreet {name[:36]} a a 0 0 1"))
        used = f"piece p\nspot a\nstreet {name[:37]} a a 0 0 1"
        self.assertEqual(error_of(built, used), (BadName, name[:37] + ".fro"))
        used = f"piece p\nroad\npiece q\nuse p as {name}"
        self.assertEqual(error_of(built, used), (BadText, 2, 1))
        used = f"piece p\nspot a\nspot bc\nroad d a a 0 0 1\npiece q\nuse p as {name}"
        self.assertEqual(error_of(built, used), (BadName, name + ".bc"))
        self.assertEqual(error_of(built, used + "\nwrong"), (BadName, name + ".bc"))
        self.assertEqual(error_of(built, used + "\npiece r\nspot a"), (BadName, name + ".bc"))
        used = used.replace("spot bc\n", "").replace("road d", "road def")
        self.assertEqual(error_of(built, used), (BadName, name + ".def"))
        far = "piece p\nspot a\nspot b\nroad r a b 5 -9 1\nroad s a b 5 5 1\nsame a b 4 -1"
        self.assertEqual(error_of(built, far), (TooLarge, "shift", -10, 9))
        self.assertEqual(error_of(built, far.replace("-1", "0") + "\nspot b\nsame b a 1 1"), None)
        self.assertEqual(error_of(built, far.replace("4 -1", "5 -1")), (TooLarge, "shift", 10, 9))
        # What is too large only for a while is told, too.
        self.assertEqual(error_of(built, far.replace("4 -1", "5 -1") + "\npiece q\nspot a"), (TooLarge, "shift", 10, 9))


if __name__ == "__main__":
    unittest.main()

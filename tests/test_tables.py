import random
import unittest

from alljourneys.errors import BadNumber, BadPlace, BadText, NoSpot
from alljourneys.maps import Map
from alljourneys.tables import Followed, Rule, Table

from atlas_lands import some_land
from helpers import Odd
from lands import error_of
from tables import behind, random_table, sections_of, told
from test_journeys import NO_PLACES
from texts import where

LAND = Map("spot a\nspot go\nspot ab\nroad r a go 1 0 2\nroad ra a a 0 1 3\nroad if go a -1 0 1\nroad go ab a 0 -1 5\n"
           "road least go go 1 1 1")
TEXT = """ goal  a
at a if least 1 -2 0 rest 2 0 -9 3 go r

at a go ra
at go if rest -1 1 9 2 go if
goal go
at ab go go
  at go if least 0 0 0 least 0 0 0 least -2 2 3 least 1 1 1  go least
"""
NO_SPOTS = ("z", "r", None, 1, True, ["a"], Odd())


def column_of(text):
    error = error_of(Table, LAND, text)
    if error is None:
        return None
    assert error[0] is BadText, error
    return error[1:]


class TextTest(unittest.TestCase):
    def test_by_hand(self):
        """[81] [82] Where the right beginning ends."""
        at = "goal a\n"
        four = at + "at a go r\n" * 4
        for text, place in (
                ("", None), (" \n\n", None), ("g", (1, 2)), ("goal", (1, 5)), ("goal ", (1, 6)), ("goal z", (1, 6)),
                ("at a go r", (1, 1)), ("goal a b", (1, 8)), ("goal a\ngoal a", (2, 7)), ("goal a\ngoal ab", None),
                ("goal abc", (1, 8)), (at + "goal go\ngoal ab\ngoal a", (4, 1)), (at + "goal go\ngoal ab\nat a go r", None),
                (at + "at", (2, 3)), (at + "at a", (2, 5)), (at + "at a go", (2, 8)), (at + "at a go r", None),
                (at + "at a go r ra", (2, 11)), (at + "at a go if", (2, 9)), (at + "at ab go go", None),
                (at + "at ab go r", (2, 10)), (at + "at go go go", (2, 10)), (at + "at go go if", None),
                (at + "at a if go r", (2, 9)), (at + "at a if least 3", (2, 15)), (at + "at a if least 2 -3", (2, 18)),
                (at + "at a if least 2 -0", (2, 18)), (at + "at a if least 02", (2, 16)), (at + "at a if least 0 0 10", (2, 20)),
                (at + "at a if least 0 0 -9 go r", None), (at + "at a if least 0 0 9", (2, 20)),
                (at + "at a if least 0 0 9 2", (2, 21)), (at + "at a if rest 0 0 9 go", (2, 20)),
                (at + "at a if rest 0 0 9 4", (2, 20)), (at + "at a if rest 0 0 9 2 x", (2, 22)),
                (at + "at a if rest 0 0 9 1", (2, 20)), (at + "at a if +1", (2, 9)),
                (at + "at a if " + "least 0 0 0 " * 4 + "go r", None), (at + "at a if " + "least 0 0 0 " * 5, (2, 57)),
                (four, None), (four + "at a go r", (6, 5)), (four + "at ab go go", None), (four + "at a", (6, 5)),
                (four + "goal ab\nat a go r", None), (at + "at a go r\n" * 4 + "at go go if\n" * 4 + "at ab go go\n" * 4, None),
                (at + "at a go r\n" * 4 + "at go go if\n" * 4 + "at ab go go\n" * 4 + "at", (14, 1)),
                (at + "at a\tgo r", (2, 5)), ("goal A", (1, 6)), (at + "at a go r\n x", (3, 2))):
            self.assertEqual(column_of(text), place, text)
        lone = Map("spot a\nspot b\nroad r b a 0 0 1")
        self.assertEqual(error_of(Table, lone, "goal a\nat a"), (BadText, 2, 4))
        self.assertEqual(error_of(Table, lone, "goal a\nat b go r"), None)
        self.assertEqual(error_of(Table, Map("spot a"), "goal a\na"), (BadText, 2, 1))

    def test_cut_off(self):
        """[81] [82] A text that is cut off at each character is right, or too short."""
        self.assertIsNone(column_of(TEXT))
        for end in range(len(TEXT)):
            start = TEXT[:end]
            is_right = sections_of(LAND, start) is not None
            self.assertEqual(column_of(start), None if is_right else where(start, end), start)

    def test_random_edits(self):
        """[81] [82] Texts with a changed character: what is told can be completed, and nothing longer."""
        chance = random.Random(81)
        words = set("goal at go if least rest a ab r ra -1 -2 -9 0 1 2 9 3".split())
        suffixes = {""} | {word[k:] for word in words for k in range(1, len(word) + 1)}
        tails = ("", " a", " r", " go", " if", " go r", " go if", " go go", " a go r", " 0 0 0 go", " 0 0 0 2 go",
                 " least 0 0 0 go", " if least 0 0 0 go", " 0 0 go", " 0 go", " 0 0 2 go", " 0 2 go", " 2 go")
        names = ("", " r", " go", " if", " ra")
        ends = sorted({suffix + tail + name for suffix in suffixes for tail in tails for name in names})
        judged = []
        for _ in range(150):
            at = chance.randrange(len(TEXT))
            new = chance.choice("abgolrestif0129.- \n")
            text = TEXT[:at] + chance.choice(("", new, new + TEXT[at])) + TEXT[at + 1:]
            place = column_of(text)
            self.assertEqual(place is None, sections_of(LAND, text) is not None, text)
            if place is None:
                continue
            lines = text.split("\n")
            end = sum(len(line) + 1 for line in lines[:place[0] - 1]) + place[1] - 1
            judged.append(any(sections_of(LAND, text[:end] + more) is not None for more in ends))
            if end < len(text) and text[end] != "\n":
                self.assertFalse([more for more in ends if sections_of(LAND, text[:end + 1] + more) is not None])
        self.assertGreater(sum(judged), len(judged) * 9 // 10)

    def test_attributes(self):
        """[82] The text without what means nothing; goals; rules with their conditions."""
        table = Table(LAND, TEXT)
        self.assertTrue(table.land == LAND)
        self.assertEqual(table.text, "".join(" ".join(line.split()) + "\n" for line in TEXT.split("\n") if line.split()))
        self.assertEqual((table.goals, Table(LAND, "\n").goals, Table(LAND, " ").text), (("a", "go"), (), ""))
        rules = table.rules_of("a", "a")
        self.assertTrue(all(isinstance(rule, Rule) for rule in rules))
        self.assertEqual([(rule.conditions, rule.road) for rule in rules],
                         [((("least", 1, -2, 0), ("rest", 2, 0, -9, 3)), "r"), ((), "ra")])
        self.assertEqual([rule.conditions for rule in table.rules_of("go", "go")],
                         [(("least", 0, 0, 0), ("least", 0, 0, 0), ("least", -2, 2, 3), ("least", 1, 1, 1))])
        self.assertEqual((table.rules_of("ab", "a"), table.rules_of("go", "a")), ((), ()))
        self.assertIs(type(rules), tuple)


class TableTest(unittest.TestCase):
    def test_random(self):
        """[81] [82] Told roads and followed ones, by reading the text line by line."""
        chance = random.Random(82)
        kinds = {"there": 0, "lost": 0, "going": 0}
        for _ in range(150):
            land = some_land(chance, chance.randint(1, 3), chance.randint(1, 6), 1, 5)
            text = random_table(chance, land)
            table, sections = Table(land, text), sections_of(land, text)
            for _ in range(10):
                far = chance.choice((0, 0, 10 ** 50))
                goal = (chance.choice(land.spots), far + chance.randint(-2, 2), chance.randint(-2, 2) - far)
                start = (chance.choice(land.spots), far + chance.randint(-4, 4), chance.randint(-4, 4) - far)
                road = told(land, sections, start, goal)
                self.assertEqual(table.road_at(start, goal), None if road is None else road.name)
                most = chance.choice((0, 1, 7, 1000))
                here, names, price = start, [], 0
                while road is not None and len(names) < most:
                    here, price = behind(here, road), price + road.price
                    names.append(road.name)
                    road = told(land, sections, here, goal)
                found = table.followed(start, goal, most)
                self.assertIsInstance(found, Followed)
                kind = "there" if here == goal else "lost" if road is None else "going"
                self.assertEqual((found.kind, found.journey, found.place, found.price), (kind, tuple(names), here, price))
                kinds[kind] += 1
        self.assertGreater(min(kinds.values()), 15)

    def test_by_hand(self):
        """[82] The goal itself, goals without a section, rules that always fit, and at most so many roads."""
        table = Table(LAND, TEXT)
        self.assertIsNone(table.road_at(("a", 3, 3), ("a", 3, 3)))
        self.assertIsNone(table.road_at(("a", 3, 3), ("ab", 3, 3)))
        self.assertEqual(table.road_at(("a", 4, 3), ("a", 3, 3)), "ra")
        self.assertEqual(table.road_at(("a", 3 + 3 * 10 ** 60, 3), ("a", 3, 3)), "r")
        found = table.followed(("a", 0, 0), ("a", 0, 0), 0)
        self.assertEqual((found.kind, found.journey, found.place, found.price), ("there", (), ("a", 0, 0), 0))
        found = table.followed(("a", 0, -2), ("a", 0, 0), 1)
        self.assertEqual((found.kind, found.journey, found.place, found.price), ("going", ("r",), ("go", 1, -2), 2))
        found = table.followed(("a", 0, 1), ("a", 0, 1000), 1000)
        self.assertEqual((found.kind, len(found.journey)), ("lost", 1))
        circle = Table(Map("spot a\nroad r a a 0 0 1"), "goal a\nat a go r")
        found = circle.followed(("a", 0, 1), ("a", 0, 0), 1000)
        self.assertEqual((found.kind, found.journey, found.price), ("going", ("r",) * 1000, 1000))

    def test_errors(self):
        """[82] Wrong places, spots and numbers; BadNumber comes behind the errors of places."""
        table = Table(LAND, TEXT)
        for spot in NO_SPOTS:
            self.assertEqual(error_of(table.rules_of, spot, None)[0], NoSpot)
            self.assertEqual(error_of(table.rules_of, "a", spot)[0], NoSpot)
        calls = (table.road_at, lambda start, goal: table.followed(start, goal, None))
        for call in calls:
            for place in NO_PLACES:
                self.assertEqual(error_of(call, place, None), (BadPlace, "start"))
                self.assertEqual(error_of(call, ("a", 0, 0), place), (BadPlace, "goal"))
            self.assertEqual(error_of(call, ("z", 0, 0), None), (NoSpot, "z"))
            self.assertEqual(error_of(call, ("a", 0, 0), ("y", 0, 0)), (NoSpot, "y"))
        for most in (-1, 1001, True, None, "1", 1.0, (1,), Odd()):
            self.assertEqual(error_of(table.followed, ("a", 0, 0), ("a", 0, 0), most)[:2], (BadNumber, "most"))


if __name__ == "__main__":
    unittest.main()

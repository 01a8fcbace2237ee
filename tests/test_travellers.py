import itertools
import random
import unittest

from alljourneys.errors import (BadJourney, BadName, BadNumber, BadPlace, BadText, NoRoad, NoSpot, TakenName, TooLarge,
                                TooMany, Unlike)
from alljourneys.journeys import ended
from alljourneys.maps import Map, map_of
from alljourneys.travellers import Traveller, parting

from helpers import Odd
from lands import error_of, random_journey, random_land
from test_journeys import NO_PLACES
from texts import where

LAND = Map("spot a\nspot b\nroad r a b 1 -2 3 k\nroad s b a 0 5 7\nroad t a a -1 0 2 l\nroad u b b 0 1 4")
RULES = """ state  x
state y1

step x k y1
step x l x
step y1 l x
last y1
tank 2
burn t 1
burn s 2
well b
bar s t
bar  t t
"""


def lines_of(text):
    return [line.split() for line in text.split("\n") if line.split()]


class Walker:
    """A traveller who walks by the words of the document, line by line."""

    def __init__(self, land, text):
        self.land, self.lines = land, lines_of(text)
        self.states = [line[1] for line in self.lines if line[0] == "state"]
        self.tank = [int(line[1]) for line in self.lines if line[0] == "tank"]

    def goes(self, start, journey):
        """What is known behind each road: (state, level, last road); None if it cannot go a road."""
        here = (self.states[0] if self.states else None, self.tank[0] if self.tank else None, None)
        found = [here]
        for name in journey:
            state, level, last = found[-1]
            road = self.land.road_named(name)
            if ["bar", last, name] in self.lines:
                return None
            if self.states and road.label is not None:
                steps = [line[3] for line in self.lines if line[:3] == ["step", state, road.label]]
                if not steps:
                    return None
                state = steps[0]
            if self.tank:
                burns = [int(line[2]) for line in self.lines if line[:2] == ["burn", name]]
                level -= sum(burns)
                if level < 0:
                    return None
                if ["well", road.end] in self.lines:
                    level = self.tank[0]
            found.append((state, level, name))
        return found

    def may_end(self, known):
        lasts = [line[1] for line in self.lines if line[0] == "last"]
        return not lasts or known[0] in lasts

    def named(self, spot, known):
        """The name of the spot of the expanded map at which one stands."""
        parts = [spot]
        if self.states:
            parts.append(known[0])
        if self.tank:
            parts.append(str(known[1]))
        if any(line[0] == "bar" for line in self.lines):
            roads = [road.name for road in self.land.roads
                     if road.end == spot and any(line[:2] == ["bar", road.name] for line in self.lines)]
            parts.append(str(roads.index(known[2]) + 1 if known[2] in roads else 0))
        return ".".join(parts)


def all_journeys(land, spot, many):
    """All journeys of at most so many roads from a spot, the shorter ones first."""
    found = [((), spot)]
    for journey, end in found:
        if len(journey) < many:
            found.extend(((*journey, road.name), road.end) for road in land.roads_from(end))
    return [journey for journey, _ in found]


def random_rules(chance, land, tank=True):
    rows = []
    states = chance.choice(([], ["x"], ["x", "y"]))
    rows += [f"state {state}" for state in states]
    for state, label in itertools.product(states, "kl"):
        if chance.random() < 0.8:
            rows.append(f"step {state} {label} {chance.choice(states)}")
    rows += [f"last {state}" for state in states if chance.random() < 0.4]
    if tank and chance.random() < 0.5:
        rows.append(f"tank {chance.randint(1, 2)}")
    rows += [f"burn {road.name} {chance.randint(0, 2)}" for road in land.roads if chance.random() < 0.4]
    rows += [f"well {spot}" for spot in land.spots if chance.random() < 0.3]
    for first in chance.sample(land.roads, 2):
        rows += [f"bar {first.name} {road.name}" for road in land.roads if chance.random() < 0.2]
    chance.shuffle(rows)
    return "\n".join(rows)


class TravellerTest(unittest.TestCase):
    def test_text(self):
        """[29] [33] The shape of the lines alone: where the right beginning ends."""
        for text, place in (("x", (1, 1)), ("state", (1, 6)), ("state a.b", (1, 8)), ("state a b", (1, 9)),
                            ("sta", (1, 4)),
                            ("stop", (1, 3)), ("ste", (1, 4)), ("step a", (1, 7)), ("step a l.m b.c", (1, 13)),
                            ("step a.b", (1, 7)), ("last a.b", (1, 7)), ("tank 0a", (1, 7)), ("tank 00", (1, 7)),
                            ("tank 100", (1, 8)), ("tank -1", (1, 6)), ("burn r 100", (1, 10)), ("burn r 01", (1, 9)),
                            ("burn r", (1, 7)), ("well", (1, 5)), ("well a.", (1, 8)), ("well a. ", (1, 8)),
                            ("well A", (1, 6)), ("bar r", (1, 6)), ("bar r s t", (1, 9)), ("\n\n bars", (3, 5)),
                            ("well " + "a" * 41, (1, 46)), ("state " + "a" * 41, (1, 47)),
                            ("well " + "a" * 39 + ".", (1, 45)), ("bar zz zz\nbar zz zz\nlast q\ntank 99\nb", (5, 2)),
                            ("state a\nstate a\nstate 1", (3, 7)), ("tank 24\ntank", (2, 5))):
            self.assertEqual(error_of(Traveller, LAND, text), (BadText,) + place, text)
        for end in range(len(RULES)):
            error = error_of(Traveller, LAND, RULES[:end])
            if error is not None and error[0] is BadText:
                self.assertEqual(error[1:], where(RULES, end))
        for end in (1, 10, 11, 60, 100, len(RULES) - 3):
            self.assertEqual(error_of(Traveller, LAND, RULES[:end] + "-"), (BadText,) + where(RULES, end))

    def test_errors(self):
        """[33] Line by line, from left to right, and behind a line what may not stand once more."""
        for text, error in (
                ("step q l z\nstate q", (BadName, "z")), ("step q l z", (BadName, "q")), ("last q", (BadName, "q")),
                ("last q\nstate q\nburn z 1", (NoRoad, "z")), ("state q\nstate q\nburn z 1", (TakenName, "q")),
                ("burn z 1\nstate q\nstate q", (NoRoad, "z")), ("burn a 1", (NoRoad, "a")), ("well r", (NoSpot, "r")),
                ("bar z y", (NoRoad, "z")), ("bar r y", (NoRoad, "y")), ("tank 0", (BadNumber, "tank", 0)),
                ("tank 24\nlast q", (BadNumber, "tank", 24)), ("tank 99", (BadNumber, "tank", 99)),
                ("tank 1\ntank 1", (TakenName, "tank")), ("tank 1\ntank 24", (BadNumber, "tank", 24)),
                ("burn r 1\nburn r 0", (TakenName, "r")), ("well a\nwell b\nwell a", (TakenName, "a")),
                ("bar r s\nbar r t\nbar r s", (TakenName, "s")), ("bar r s\nbar r s\nwell z", (TakenName, "s")),
                ("state q\nstep q l q\nstep q l q", (TakenName, "l")), ("state q\nlast q\nlast q", (TakenName, "q")),
                ("state q\nstep q l q\nstep q l z", (BadName, "z")), ("bar r s\nbar s r\nbar r r", None),
                ("state q\nstate p\nstep q l q\nstep p l q\nstep q m p", None), ("burn r 99\nwell a", None),
                ("last q\nstep q k q\nstate q", None), ("", None), ("\n \n", None)):
            self.assertEqual(error_of(Traveller, LAND, text), error, text)

    def test_too_large(self):
        """[33] Too many standings, too many roads, long names."""
        self.assertEqual(len(Traveller(LAND, "tank 11").expanded.spots), 24)
        full = map_of([f"s{k}" for k in range(24)], [])
        self.assertTrue(Traveller(full, "").expanded == full)
        self.assertEqual(error_of(Traveller, full, "state x\nstate y"), (TooMany, "spots", 48, 24))
        self.assertEqual(error_of(Traveller, LAND, "tank 12"), (TooMany, "spots", 26, 24))
        states = "\n".join(f"state s{k}" for k in range(5000))
        many = (TooMany, "spots", 5000 * 24 * 3, 24)
        self.assertEqual(error_of(Traveller, LAND, states + "\ntank 23\nbar r s"), many)
        roads = [f"road q{k} a a 0 0 1" for k in range(54)]
        many = Map("spot a\n" + "\n".join(roads))
        self.assertEqual(error_of(Traveller, many, "tank 2"), (TooMany, "roads", 162, 160))
        self.assertEqual(len(Traveller(many, "tank 2\nburn q0 1\nburn q1 2").expanded.roads), 159)
        long = map_of(["b", "a" * 37], [])
        self.assertIsNone(error_of(Traveller, long, "tank 1"))
        self.assertEqual(error_of(Traveller, long, "tank 10"), None)
        self.assertEqual(error_of(Traveller, long, "state x\ntank 1"), (TooLarge, "name", 41, 40))
        long = Map("spot a\nroad " + "r" * 40 + " a a 0 0 1")
        self.assertEqual(error_of(Traveller, long, "tank 1"), (TooLarge, "name", 42, 40))
        self.assertEqual(error_of(Traveller, long, "tank 1\nburn " + "r" * 40 + " 1"), (TooLarge, "name", 42, 40))
        self.assertIsNone(error_of(Traveller, long, "tank 1\nburn " + "r" * 40 + " 2"))

    def test_plain_one(self):
        """[31] Without rules the expanded map is the map."""
        one = Traveller(LAND, "")
        self.assertEqual((one.text, one.states, one.tank), ("", (), None))
        self.assertTrue(one.land == LAND and one.expanded == LAND)
        self.assertEqual((one.first_spot("b"), one.last_spots("b")), ("b", ("b",)))
        one = Traveller(LAND, "burn r 9\nwell a")
        self.assertTrue(one.expanded == LAND)

    def test_expanded(self):
        """[31] [33] The names, their order, the roads."""
        one = Traveller(LAND, RULES)
        self.assertEqual((one.text, one.states, one.tank), (RULES, ("x", "y1"), 2))
        self.assertEqual(len(one.expanded.spots), 24)
        self.assertEqual(one.expanded.spots[:4], ("a.x.0.0", "a.x.0.1", "a.x.0.2", "a.x.1.0"))
        self.assertEqual(one.expanded.spots[17:20], ("a.y1.2.2", "b.x.0.0", "b.x.1.0"))
        self.assertEqual(one.last_spots("b"), ("b.y1.0.0", "b.y1.1.0", "b.y1.2.0"))
        self.assertEqual((one.first_spot("a"), one.first_spot("b")), ("a.x.2.0", "b.x.2.0"))

    def test_small(self):
        """[31] [33] A whole expanded map."""
        land = Map("spot a\nspot b\nroad r a b 1 -2 3 k\nroad s b a 0 5 7")
        one = Traveller(land, "tank 1\nburn r 1\nwell a\nstate x\nstep x k x\nbar s r\nlast x")
        self.assertEqual(one.expanded.text, (
            "spot a.x.0.0\nspot a.x.0.1\nspot a.x.1.0\nspot a.x.1.1\nspot b.x.0.0\nspot b.x.1.0\n"
            "road r.x.1.0 a.x.1.0 b.x.0.0 1 -2 3 k\n"
            "road s.x.0.0 b.x.0.0 a.x.1.1 0 5 7\nroad s.x.1.0 b.x.1.0 a.x.1.1 0 5 7\n"))
        self.assertEqual(one.last_spots("a"), ("a.x.0.0", "a.x.0.1", "a.x.1.0", "a.x.1.1"))
        self.assertEqual(one.went(("a", 5, 5), ["r", "s"]), (
            (("a", 5, 5), "a.x.1.0"), (("b", 6, 3), "b.x.0.0"), (("a", 6, 8), "a.x.1.1")))
        self.assertEqual(one.lifted(("a", 5, 5), ("r", "s")), ("r.x.1.0", "s.x.0.0"))
        self.assertEqual(error_of(one.went, ("a", 5, 5), ["r", "s", "r"]), (BadJourney, 2))
        self.assertEqual(one.plain(["s.x.1.0", "s.x.1.0", "r.x.1.0"]), ("s", "s", "r"))

    def test_wrong_calls(self):
        """[33] Errors of places, spots and items."""
        one = Traveller(LAND, "state x\nstep x k x\nbar s t")
        for call in (one.went, one.lifted):
            for place in NO_PLACES:
                self.assertEqual(error_of(call, place, [None]), (BadPlace, "start"))
            self.assertEqual(error_of(call, ("x", 0, 0), [None]), (NoSpot, "x"))
            for value in ("t", "z", "u", "r.x.0", None, 1, ["r"], {}, Odd()):
                self.assertEqual(error_of(call, ("a", 0, 0), ["r", "s", value]), (BadJourney, 2))
            self.assertEqual(error_of(call, ("a", 0, 0), ["t"]), (BadJourney, 0))
        for value in ("r", "t.x.0", "r.x", "z", None, 1, ["r.x.0"], Odd()):
            self.assertEqual(error_of(one.plain, ["r.x.0", value]), (BadJourney, 1))
        for value in ("r", "a.x.0", None, 1, ["a"]):
            self.assertEqual(error_of(one.first_spot, value), (NoSpot, value))
            self.assertEqual(error_of(one.last_spots, value), (NoSpot, value))

    def test_random(self):
        """[30] to [33] The journeys of the expanded map are those that the traveller goes, each once."""
        chance = random.Random(30)
        done = 0
        while done < 60:
            land = random_land(chance, 2, 4)
            text = random_rules(chance, land)
            error = error_of(Traveller, land, text)
            if error is not None:
                self.assertEqual(error[:2], (TooMany, "spots"))
                continue
            done += 1
            one, walker = Traveller(land, text), Walker(land, text)
            for spot in land.spots:
                gone = set()
                for journey in all_journeys(land, spot, 4):
                    known = walker.goes(spot, journey)
                    start = (spot, 3, 4)
                    if known is None:
                        self.assertEqual(error_of(one.went, start, journey)[0], BadJourney)
                        continue
                    stops = [ended(land, start, journey[:k])[0] for k in range(len(journey) + 1)]
                    names = tuple((stop, walker.named(stop[0], here)) for stop, here in zip(stops, known))
                    self.assertEqual(one.went(start, journey), names)
                    lifted = one.lifted(start, list(journey))
                    gone.add(lifted)
                    self.assertEqual(one.plain(lifted), journey)
                    self.assertEqual(ended(one.expanded, (one.first_spot(spot), 3, 4), lifted), (
                        (names[-1][1],) + stops[-1][1:], ended(land, start, journey)[1]))
                    may_end = names[-1][1] in one.last_spots(stops[-1][0])
                    self.assertEqual(may_end, walker.may_end(known[-1]))
                self.assertEqual(gone, set(all_journeys(one.expanded, one.first_spot(spot), 4)))

    def test_alike(self):
        """[32] [33] A shortest journey that tells two travellers apart."""
        chance = random.Random(33)
        seen = set()
        for turn in range(300):
            land = random_land(chance, 2, 4)
            texts = [random_rules(chance, land, turn % 2 == 0) for _ in range(2)]
            if turn % 3 == 0:
                texts[1] = "\n".join(reversed(texts[0].split("\n")))
            if any(error_of(Traveller, land, text) is not None for text in texts):
                continue
            one, other = [Traveller(land, text) for text in texts]
            walkers = [Walker(land, text) for text in texts]
            told = parting(one, other)
            apart = None
            for many in range(4):
                apart = apart or [(spot, journey) for spot in land.spots for journey in all_journeys(land, spot, many)
                                  if len(journey) == many and self.are_apart(walkers, spot, journey)]
            if apart:
                self.assertTrue(self.are_apart(walkers, *told))
                self.assertEqual(len(told[1]), len(apart[0][1]))
            elif told is not None:
                self.assertTrue(self.are_apart(walkers, *told))
                self.assertGreater(len(told[1]), 3)
            seen.add(None if told is None else len(told[1]))
        self.assertGreaterEqual(len(seen), 4)

    def are_apart(self, walkers, spot, journey):
        known = [walker.goes(spot, journey) for walker in walkers]
        if None in known:
            return known != [None, None]
        return walkers[0].may_end(known[0][-1]) != walkers[1].may_end(known[1][-1])

    def test_parting(self):
        """[33] Some that are alike, some that are not."""
        self.assertEqual(error_of(parting, Traveller(LAND, ""), Traveller(Map("spot a"), "")), (Unlike, "map"))
        land = Map("spot a\nspot b\nroad t a a 0 0 1\nroad s a b 0 0 1")
        for one, other, told in (
                ("", "state x\nlast x", None), ("", "tank 5", None), ("", "state x\nstate y\nlast y", ()),
                ("tank 3\nburn t 1", "tank 6\nburn t 2", None), ("tank 3\nburn t 1", "tank 7\nburn t 2", None),
                ("tank 3\nburn t 1", "tank 8\nburn t 2", ("t",) * 4), ("", "bar t t", ("t", "t")),
                ("", "bar s t", None),
                ("bar t t", "tank 1\nburn t 1", None), ("tank 1\nburn t 1", "tank 1\nburn t 1\nwell a", ("t", "t"))):
            found = parting(Traveller(land, one), Traveller(land, other))
            if told is None or told:
                self.assertEqual(found, None if told is None else ("a", told))
            else:
                self.assertEqual(found[1], ())
        land = Map("spot a\nspot b\nroad t a a 0 0 1 l\nroad s b b 0 0 1 m")
        one, other = Traveller(land, "state x\nstep x l x"), Traveller(land, "state x\nstep x l x\nstep x m x")
        self.assertEqual(parting(one, other), ("b", ("s",)))

    def test_journeys_are_long(self):
        """[33] Long journeys."""
        one = Traveller(LAND, "tank 1\nburn u 0")
        self.assertEqual(len(one.went(("b", 0, 0), ["u"] * 20000)), 20001)
        self.assertEqual(len(random_journey(random.Random(1), LAND, "a", 5)), 5)


if __name__ == "__main__":
    unittest.main()

import heapq
import random
import re
import unittest

from alljourneys.arrivals import Arrivals, lateness
from alljourneys.atlases import Atlas
from alljourneys.errors import (BadJourney, BadNumber, BadPlace, BadText, NoRoad, NoSpot, TakenName, TooLarge, TooMany)
from alljourneys.maps import Map, map_of
from alljourneys.timetables import Timetable
from alljourneys.travellers import Traveller

from helpers import Odd, least
from lands import error_of, random_land
from test_journeys import NO_PLACES
from test_trips import NEAR, judge_dearer
from texts import NAME, where

LAND = Map("spot a\nspot b\nroad r a b 1 -2 3 k\nroad s b a 0 5 7\nroad t a a -1 0 2 l")
TEXT = "\n  period  4 \n\nopen r 0 2 3\nstop b\n open t 1"


class Clock:
    """A timetable read by the words of the document."""

    def __init__(self, land, text):
        lines = [line.split() for line in text.split("\n") if line.split()]
        self.land = land
        self.period = int(lines[0][1])
        self.open = {line[1]: [int(word) for word in line[2:]] for line in lines[1:] if line[0] == "open"}
        self.stops = [line[1] for line in lines[1:] if line[0] == "stop"]

    def entries(self, spot, moment):
        """What can be entered at a spot at a moment: tuples of the entry, end, shift, duration."""
        rows = [(road.name, road.end, road.shift, road.price) for road in self.land.roads if road.start == spot
                and (road.name not in self.open or moment % self.period in self.open[road.name])]
        return rows + ([(None, spot, (0, 0), 1)] if spot in self.stops else [])

    def arrivals(self, spot, moment, most):
        """The least moments at places up to so long after a moment."""
        found, seen = {}, set()
        queue = [(moment, spot, 0, 0)]
        while queue:
            now, here, x, y = heapq.heappop(queue)
            if (here, x, y, now % self.period) in seen:
                continue
            seen.add((here, x, y, now % self.period))
            found.setdefault((here, x, y), now)
            for _, end, shift, price in self.entries(here, now):
                if now + price <= moment + most:
                    heapq.heappush(queue, (now + price, end, x + shift[0], y + shift[1]))
        return found


def random_text(chance, land, period):
    rows = []
    for road in land.roads:
        if chance.random() < 0.6:
            phases = sorted(chance.sample(range(period), chance.randint(1, period)))
            rows.append(f"open {road.name} " + " ".join(map(str, phases)))
    rows += [f"stop {spot}" for spot in land.spots if chance.random() < 0.4]
    chance.shuffle(rows)
    return "\n".join([f"period {period}"] + rows)


def is_text(text):
    """Whether a string is the text of a timetable, by the shape of the lines alone."""
    rows = [line.split(" ") for line in text.split("\n")]
    rows = [" ".join(word for word in row if word) for row in rows]
    rows = [row for row in rows if row]
    name = f"(?=[a-z0-9.]{{1,40}}( |$)){NAME}"
    return (bool(rows) and bool(re.fullmatch("period [0-9]", rows[0]))
            and all(re.fullmatch(f"(stop {name})|(open {name}( [0-9])+)", row) for row in rows[1:]))


class TimetableTest(unittest.TestCase):
    def test_text(self):
        """[36] [40] The shape of the lines alone: where the right beginning ends."""
        for text, place in (("", (1, 1)), ("\n \n", (3, 1)), ("x", (1, 1)), ("perio", (1, 6)), ("period", (1, 7)),
                            ("period ", (1, 8)), ("period a", (1, 8)), ("period 12", (1, 9)), ("period 3 1", (1, 10)),
                            ("stop a", (1, 1)), ("period 3\nperiod 3", (2, 1)), ("period 3\nstop", (2, 5)),
                            ("period 3\nstop a b", (2, 8)), ("period 3\nopen r", (2, 7)), ("period 3\nopen r ", (2, 8)),
                            ("period 3\nopen r 1 23", (2, 11)), ("period 3\nopen r -1", (2, 8)),
                            ("period 0\nopen r 9 9 0\nstop z\nstop z\nstep", (5, 3)), ("period -1", (1, 8)),
                            ("period 3\nstop " + "a" * 41, (2, 46)), ("period 3\nstop a.", (2, 8)),
                            ("period 3\nopen A", (2, 6)), ("period\t3", (1, 7)), ("period 3\nopen  r  1 x", (2, 12))):
            self.assertEqual(error_of(Timetable, LAND, text), (BadText,) + place, text)
        for end in range(len(TEXT)):
            error = error_of(Timetable, LAND, TEXT[:end])
            if is_text(TEXT[:end]):
                self.assertTrue(error is None or error[0] is not BadText)
            else:
                self.assertEqual(error, (BadText,) + where(TEXT, end))
            self.assertEqual(error_of(Timetable, LAND, TEXT[:end] + "-"), (BadText,) + where(TEXT, end))

    def test_errors(self):
        """[36] [40] The errors and their order."""
        for text, error in (
                ("period 0\nopen z 9", (BadNumber, "period", 0)), ("period 7", (BadNumber, "period", 7)),
                ("period 9\nstop z", (BadNumber, "period", 9)), ("period 3\nopen z 9", (NoRoad, "z")),
                ("period 3\nopen a 9", (NoRoad, "a")), ("period 3\nstop r\nopen z 1", (NoSpot, "r")),
                ("period 3\nopen r 3", (BadNumber, "phase", 3)), ("period 3\nopen r 0 0", (BadNumber, "phase", 0)),
                ("period 3\nopen r 2 1 5", (BadNumber, "phase", 1)), ("period 3\nopen r 1 5 0", (BadNumber, "phase", 5)),
                ("period 3\nopen r 1\nopen r 2 2", (BadNumber, "phase", 2)),
                ("period 3\nopen r 1\nopen r 2\nopen z 1", (TakenName, "r")), ("period 3\nstop a\nstop a", (TakenName, "a")),
                ("period 3\nstop a\nstop b\nopen r 0 1 2\nopen s 1", None), ("period 6", None), ("period 1", None),
                ("period 1\nopen r 0", None), ("period 1\nopen r 1", (BadNumber, "phase", 1))):
            self.assertEqual(error_of(Timetable, LAND, text), error, text)

    def test_too_large(self):
        """[38] [40] Too many spots and roads, long names."""
        land = map_of([f"s{k}" for k in range(13)], [])
        self.assertEqual(error_of(Timetable, land, "period 2"), (TooMany, "spots", 26, 24))
        self.assertEqual(error_of(Timetable, land, "period 2\nstop s1\nstop z"), (NoSpot, "z"))
        self.assertIsNone(error_of(Timetable, map_of([f"s{k}" for k in range(12)], []), "period 2"))
        rows = "\n".join(f"road q{k} a a 0 0 1" for k in range(79))
        many = Map("spot a\n" + rows)
        self.assertEqual(error_of(Timetable, many, "period 3"), (TooMany, "roads", 237, 160))
        self.assertEqual(len(Timetable(many, "period 2\nstop a").expanded.roads), 160)
        more = Map("spot a\n" + rows + "\nroad z a a 0 0 1")
        self.assertEqual(error_of(Timetable, more, "period 2\nstop a"), (TooMany, "roads", 162, 160))
        self.assertIsNone(error_of(Timetable, more, "period 2\nstop a\nopen z 1\nopen q1 0"))
        long = map_of(["b", "a" * 39], [])
        self.assertEqual(error_of(Timetable, long, "period 2"), (TooLarge, "name", 41, 40))
        long = map_of(["b", "a" * 34], [])
        self.assertIsNone(error_of(Timetable, long, "period 2\nstop b"))
        self.assertEqual(error_of(Timetable, long, "period 2\nstop " + "a" * 34), (TooLarge, "name", 41, 40))
        long = Map("spot a\nroad " + "r" * 39 + " a a 0 0 1\nroad " + "s" * 40 + " a a 0 0 1")
        self.assertEqual(error_of(Timetable, long, "period 2"), (TooLarge, "name", 41, 40))

    def test_expanded(self):
        """[38] [40] The expanded map, whole."""
        land = Map("spot a\nspot b\nroad r a b 1 -2 3 k\nroad s b a 0 5 7")
        text = "period 2\nstop b\nopen r 1"
        one = Timetable(land, text)
        self.assertEqual((one.text, one.period, one.stops), (text, 2, ("b",)))
        self.assertTrue(one.land == land)
        self.assertEqual(one.expanded.text, (
            "spot a.0\nspot a.1\nspot b.0\nspot b.1\nroad r.1 a.1 b.0 1 -2 3 k\nroad s.0 b.0 a.1 0 5 7\n"
            "road s.1 b.1 a.0 0 5 7\nroad b.0.wait b.0 b.1 0 0 1\nroad b.1.wait b.1 b.0 0 0 1\n"))
        self.assertTrue(Traveller(one.expanded, "bar r.1 s.0").expanded is not None)
        one = Timetable(LAND, "period 1\nstop b\nstop a")
        self.assertEqual(one.stops, ("a", "b"))
        self.assertEqual(one.expanded.road_named("a.0.wait").end, "a.0")

    def test_moments(self):
        """[37] [40] Moments below 0, and rides."""
        one = Timetable(LAND, TEXT)
        self.assertEqual([one.may_enter("r", moment) for moment in range(-5, 4)],
                         [True, True, False, True, True, True, False, True, True])
        self.assertEqual([one.may_enter("s", moment) for moment in range(-3, 3)], [True] * 6)
        self.assertIs(one.may_enter("t", -3 - 4 * 10 ** 60), True)
        self.assertEqual((one.spot_at("a", -1), one.spot_at("b", -4 * 10 ** 300 + 2)), ("a.3", "b.2"))
        ride = ("r", None, None, "s", "t")
        told = ((-2, ("a", 5, 5)), (1, ("b", 6, 3)), (2, ("b", 6, 3)), (3, ("b", 6, 3)), (10, ("a", 6, 8)))
        self.assertEqual(one.went(("a", 5, 5), -2, ride[:4]), told)
        self.assertEqual(one.lifted(("a", 5, 5), -2, ride[:4]), ("r.2", "b.1.wait", "b.2.wait", "s.3"))
        self.assertEqual(error_of(one.went, ("a", 5, 5), -2, ride), (BadJourney, 4))
        self.assertEqual(one.went(("a", 5, 5), 7, []), ((7, ("a", 5, 5)),))
        self.assertEqual(one.plain(["b.1.wait", "s.3", "s.3", "r.2"]), (None, "s", "s", "r"))
        for call in (one.went, one.lifted):
            for value in ("s", "z", "r.2", "b.1.wait", True, 1, ["r"], {}, Odd(), None, "t"):
                self.assertEqual(error_of(call, ("a", 0, 0), 2, ["r", "s", value]), (BadJourney, 2))
                self.assertEqual(error_of(call, ("a", 0, 0), 4, [value]), (BadJourney, 0))
            for place in NO_PLACES:
                self.assertEqual(error_of(call, place, 0, [0]), (BadPlace, "start"))
            self.assertEqual(error_of(call, ("x", 0, 0), 0, [0]), (NoSpot, "x"))
        for value in ("r", "r.1", "a.0.wait", "b.4.wait", None, 1, ["s.1"], Odd()):
            self.assertEqual(error_of(one.plain, ["s.1", value]), (BadJourney, 1))
        for value in ("a", "r.0", None, 1, ["r"], Odd()):
            self.assertEqual(error_of(one.may_enter, value, 0)[0], NoRoad)
        for value in ("r", "a.0", None, 1, ["a"]):
            self.assertEqual(error_of(one.spot_at, value, 0), (NoSpot, value))

    def test_rides(self):
        """[37] [38] The journeys of the expanded map are the rides, each once."""
        chance = random.Random(38)
        for _ in range(30):
            land = random_land(chance, 2, 3)
            text = random_text(chance, land, chance.randint(1, 4))
            one, clock = Timetable(land, text), Clock(land, text)
            for spot in land.spots:
                for moment in (-3, 0, 2):
                    rides = [((), spot, moment)]
                    for ride, here, now in rides:
                        if len(ride) < 3:
                            rides += [((*ride, entry), end, now + price) for entry, end, _, price in clock.entries(here, now)]
                    found = [one.lifted((spot, 1, 1), moment, ride) for ride, _, _ in rides]
                    self.assertEqual([one.plain(journey) for journey in found], [ride for ride, _, _ in rides])
                    self.assertEqual(set(found), set(all_journeys(one.expanded, one.spot_at(spot, moment), 3)))
                    self.assertEqual(len(set(found)), len(found))


def all_journeys(land, spot, many):
    found = [((), spot)]
    for journey, end in found:
        if len(journey) < many:
            found += [((*journey, road.name), road.end) for road in land.roads_from(end)]
    return [journey for journey, _ in found]


class ArrivalTest(unittest.TestCase):
    def judge_route(self, one, clock, start, moment, goal, arrival):
        """Go the legs of a route, leg by leg."""
        legs = one.route(start, moment, goal)
        if arrival is None:
            self.assertIsNone(legs)
            return
        self.assertLessEqual(len(legs), 1000)
        self.assertEqual(legs == (), start == goal)
        now, spot, x, y = moment, *start
        for ride, times in legs:
            self.assertTrue(ride and times >= 1)
            before = (now, spot, x, y)
            for entry in ride:
                rows = [row for row in clock.entries(spot, now) if row[0] == entry]
                _, spot, shift, price = rows[0]
                now, x, y = now + price, x + shift[0], y + shift[1]
            if times > 1:
                self.assertEqual((spot, (now - before[0]) % clock.period), (before[1], 0))
                now, x, y = [then + (times - 1) * (then - first) for then, first in
                             zip((now, x, y), (before[0], before[2], before[3]))]
        self.assertEqual((now, (spot, x, y)), (arrival, goal))

    def test_random(self):
        """[39] [41] Arrivals, departures, durations and routes."""
        chance = random.Random(41)
        for turn in range(24):
            period = turn % 6 + 1
            land = random_land(chance, chance.randint(1, 12 // period if period < 4 else 2), 6, 1, 5)
            if period * len(land.spots) > 12:
                continue
            text = random_text(chance, land, period)
            one, clock = Arrivals(Timetable(land, text)), Clock(land, text)
            self.assertIsInstance(one.atlas, Atlas)
            self.assertTrue(one.atlas.land == one.timetable.expanded)
            start = (chance.choice(land.spots), 10 ** 50, -7)
            near = [clock.arrivals(start[0], phase, 12) for phase in range(period)]
            for goal in land.spots:
                for x, y in NEAR[::3] + [(0, 0), (10 ** 30, -10 ** 29)]:
                    there = (goal, start[1] + x, start[2] + y)
                    told = one.durations(start, there)
                    self.assertEqual((type(told), len(told)), (tuple, period))
                    for phase, duration in enumerate(told):
                        known = near[phase].get((goal, x, y))
                        self.assertTrue(duration is None or duration > 12 if known is None else duration == known - phase)
                        moment = phase - period * chance.choice((0, 1, 10 ** 60))
                        arrival = None if duration is None else moment + duration
                        self.assertEqual(one.arrival(start, moment, there), arrival)
                        self.judge_route(one, clock, start, moment, there, arrival)
                    for moment in (-5, 0, 9, 10 ** 40):
                        self.judge_departure(one, told, start, there, moment)

    def judge_departure(self, one, told, start, goal, moment):
        period = len(told)
        departure = one.departure(start, goal, moment)
        if told == (None,) * period:
            self.assertIsNone(departure)
            return
        known = [duration for duration in told if duration is not None]
        for then in range(departure - 2 * period, departure):
            duration = told[then % period]
        self.assertLessEqual(departure + told[departure % period], moment)
        for then in range(departure + 1, departure + 3 * period):
            duration = told[then % period]
            self.assertTrue(duration is None or then + duration > moment)
        self.assertGreater(departure, moment - min(known) - period)

    def test_later_is_earlier(self):
        """[39] [41] A later moment may have an earlier arrival where one cannot wait."""
        land = Map("spot a\nspot b\nroad r a b 0 0 9\nroad s a b 0 0 1")
        one = Arrivals(Timetable(land, "period 3\nopen r 0\nopen s 1"))
        a, b = ("a", 0, 0), ("b", 0, 0)
        self.assertEqual(one.durations(a, b), (9, 1, None))
        self.assertEqual([one.arrival(a, moment, b) for moment in (-1, 0, 1, 2, 3)], [None, 9, 2, None, 12])
        self.assertEqual([one.departure(a, b, moment) for moment in (1, 2, 9, 12)], [-2, 1, 7, 10])
        self.assertEqual(one.departure(b, a, 5), None)
        self.assertEqual(one.departure(a, a, 5), 5)
        self.assertEqual((one.route(a, 0, b), one.route(a, 1, b), one.route(a, 2, b)), (((("r",), 1),), ((("s",), 1),), None))
        self.assertEqual(one.route(a, 2, a), ())

    def test_lateness(self):
        """[42] How much longer it takes from another phase."""
        chance = random.Random(42)
        for _ in range(6):
            land = random_land(chance, 2, 5, 1, 4)
            one = Arrivals(Timetable(land, random_text(chance, land, 3)))
            for phase, other in ((0, 1), (2, 0), (1, 1)):
                told = lateness(one, "a", phase, other)
                self.assertEqual((type(told), len(told)), (tuple, 2))
                for goal, dear in zip(land.spots, told):
                    rows = [[sheet for q in range(3) for sheet in one.atlas.sheets(f"a.{p}", f"{goal}.{q}")]
                            for p in (phase, other)]
                    judge_dearer(self, dear, rows[0], rows[1], NEAR)
                    for x, y in NEAR[::7]:
                        durations = one.durations(("a", 0, 0), (goal, x, y))
                        self.assertEqual(durations[phase], least(rows[0], (x, y)))
                        if dear.kind == "bounded" and durations[phase] is not None:
                            self.assertLessEqual(durations[other], durations[phase] + dear.most)

    def test_errors(self):
        """[41] [42] Too many spots, wrong places, wrong phases."""
        land = Map("spot a\nspot b\nspot c\nroad r a b 1 0 2")
        self.assertEqual(error_of(Arrivals, Timetable(land, "period 5")), (TooMany, "spots", 15, 12))
        one = Arrivals(Timetable(land, "period 4"))
        good = ("a", 0, 0)
        calls = (lambda start, goal: one.durations(start, goal), lambda start, goal: one.arrival(start, 1, goal),
                 lambda start, goal: one.departure(start, goal, 1), lambda start, goal: one.route(start, 1, goal))
        for call in calls:
            for place in NO_PLACES:
                self.assertEqual(error_of(call, place, None), (BadPlace, "start"))
                self.assertEqual(error_of(call, good, place), (BadPlace, "goal"))
            self.assertEqual(error_of(call, ("a.0", 0, 0), None), (NoSpot, "a.0"))
            self.assertEqual(error_of(call, good, ("r", 0, 0)), (NoSpot, "r"))
        for value in (4, -1, True, False, None, "0", [0], 10 ** 60):
            self.assertEqual(error_of(lateness, one, "a", value, 7), (BadNumber, "phase", value))
            self.assertEqual(error_of(lateness, one, "a", 0, value), (BadNumber, "phase", value))
        for spot in ("a.0", None, 1, ["a"]):
            self.assertEqual(error_of(lateness, one, spot, 9, 9), (NoSpot, spot))


if __name__ == "__main__":
    unittest.main()

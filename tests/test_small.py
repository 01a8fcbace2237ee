"""The smallest maps: their answers are right, and how long they take is printed."""

import random
import time
import unittest

from alljourneys.atlases import Atlas
from alljourneys.closures import closings
from alljourneys.errors import NotAround
from alljourneys.letters import Letter
from alljourneys.maps import Map
from alljourneys.overheads import overheads, overheads_hold
from alljourneys.papers import paper_holds
from alljourneys.services import areas
from alljourneys.stretches import stretch_holds, stretches

SIDES = ((1, 0), (0, 1), (-1, 0), (0, -1))


def land_of(spots, roads):
    """The map of so many spots, with roads as tuples (start, end, x, y, price) of numbers of spots."""
    return Map("\n".join([f"spot s{k}" for k in range(spots)] + [
        f"road r{k} s{start} s{end} {x} {y} {price}" for k, (start, end, x, y, price) in enumerate(roads)]))


def few(chance):
    """One spot with one to three roads."""
    return land_of(1, [(0, 0, chance.randint(-2, 2), chance.randint(-2, 2), chance.randint(1, 6))
                       for _ in range(chance.randint(1, 3))])


def sides(chance):
    """One spot with roads to all sides, and perhaps one more."""
    roads = [(0, 0, x + (chance.random() < 0.3), y, chance.randint(1, 6)) for x, y in SIDES if (x, y) != (-1, 0)]
    roads += [(0, 0, -1, 0, chance.randint(1, 6))]
    return land_of(1, roads + [(0, 0, 2, 1, chance.randint(1, 6))][:chance.randint(0, 1)])


def two(chance):
    """Two spots with eight roads to all sides."""
    ends = [(0, 1), (1, 0)] * 2 + [chance.choice(((0, 0), (0, 1), (1, 0), (1, 1))) for _ in range(4)]
    ways = [(1, 1), (0, -1), (0, 0), (0, 0)] + list(SIDES)
    return land_of(2, [(*pair, *way, chance.randint(1, 3)) for pair, way in zip(ends, ways)])


def steps(chance):
    """One spot with steps of two cells."""
    return land_of(1, [(0, 0, chance.randint(-2, 2), chance.randint(-2, 2), chance.randint(1, 6)) for _ in range(4)])


def between(chance):
    """One spot, a road just between two others that costs as much."""
    price = chance.randint(1, 3)
    return land_of(1, [(0, 0, -1, 1, price), (0, 0, 1, 0, 1), (0, 0, 0, -1, 2), (0, 0, -1, 0, price), (0, 0, 0, 1, price)])


def line(chance):
    """A ring of seven to twelve spots on one line."""
    many = chance.randint(7, 12)
    return land_of(many, [(k, (k + 1) % many, chance.randint(-1, 1), 0, chance.randint(1, 6)) for k in range(many)])


def ring(chance):
    """Three to six spots with some roads more than a ring."""
    many = chance.randint(3, 6)
    ends = [(k, (k + 1) % many) for k in range(many)]
    ends += [(chance.randrange(many), chance.randrange(many)) for _ in range(chance.randint(1, 3))]
    return land_of(many, [(*pair, chance.randint(-1, 1), chance.randint(-1, 1), chance.randint(1, 4)) for pair in ends])


# Some that took longest once.
LONG = [land_of(spots, [tuple(map(int, road.split())) for road in roads.split("/")]) for spots, roads in (
    (1, "0 0 2 1 2/0 0 1 0 1/0 0 0 1 4/0 0 -1 0 5/0 0 0 -1 3"),
    (2, "0 1 1 1 1/1 0 0 -1 1/0 1 0 0 1/1 0 0 0 2/1 1 1 0 1/0 0 0 1 2/1 1 -1 0 2/0 0 0 -1 2"),
    (1, "0 0 -1 -1 3/0 0 1 0 6/0 0 2 1 3/0 0 -1 2 3"),
    (1, "0 0 -1 1 2/0 0 1 0 1/0 0 0 -1 2/0 0 -1 0 1/0 0 0 1 1"),
    (6, "0 1 -1 1 3/1 2 -1 1 1/2 3 -1 -1 2/3 4 -1 1 3/4 5 0 1 4/5 0 -1 1 4/3 2 -1 0 4/4 1 0 1 3/2 4 1 0 4"))]
KINDS = (few, sides, two, steps, between, line, ring)


def timed(call, *values):
    """What a call returns, and how many milliseconds it takes."""
    begin = time.perf_counter()
    told = call(*values)
    return told, (time.perf_counter() - begin) * 1000


def print_times(name, times):
    print(f"\n{name}: {sum(times) / len(times):.2f} ms on average, {max(times):.1f} ms at most", end="")


class SmallTest(unittest.TestCase):
    def test_papers(self):
        """[47] [49] Papers of the smallest maps."""
        chance = random.Random(10)
        for kind in KINDS:
            times = []
            for _ in range(40):
                land = kind(chance)
                paper, spent = timed(lambda: Atlas(land).paper("s0"))
                times.append(spent)
                self.assertTrue(paper_holds(land, paper))
            print_times(f"papers, {kind.__doc__[:-1].lower()}", times)
        times = []
        for land in LONG:
            paper, spent = timed(lambda: Atlas(land).paper("s0"))
            times.append(spent)
            self.assertTrue(paper_holds(land, paper))
        print_times("papers, long ones", times)

    def test_overheads(self):
        """[57] Overheads of maps with roads to all sides."""
        chance = random.Random(57)
        for kind in (sides, two):
            times = []
            for _ in range(30):
                atlas = Atlas(kind(chance))
                atlas.paper("s0")
                try:
                    told, spent = timed(overheads, atlas, "s0", "s0")
                except NotAround:
                    continue
                times.append(spent)
                self.assertTrue(overheads_hold(atlas, "s0", "s0", told))
            print_times(f"overheads, {kind.__doc__[:-1].lower()}", times)

    def test_stretches(self):
        """[60] [61] Stretches of the smallest letter maps."""
        chance = random.Random(11)
        for kind in (few, sides, steps, ring):
            times = []
            for _ in range(25):
                land = kind(chance)
                if len(land.spots) > 3:
                    continue
                names = chance.sample([road.name for road in land.roads], min(len(land.roads), chance.randint(1, 2)))
                letter = Letter(land, names)
                told, spent = timed(stretches, letter, "s0")
                times.append(spent)
                self.assertTrue(all(stretch_holds(letter, stretch) for stretch in told))
            print_times(f"stretches, {kind.__doc__[:-1].lower()}", times)

    def test_closings_and_areas(self):
        """[72] [78] All roads closed in turn, and areas of two services."""
        chance = random.Random(72)
        for kind in (sides, two):
            closed, nearest = [], []
            for _ in range(15):
                land = kind(chance)
                told, spent = timed(closings, Atlas(land))
                closed.append(spent)
                self.assertEqual(len(told), len(land.roads))
                told, spent = timed(areas, Atlas(land), [("s0", 1, 2), (land.spots[-1], -2, 0)], "s0")
                nearest.append(spent)
                self.assertEqual(len(told), 2)
            print_times(f"closings, {kind.__doc__[:-1].lower()}", closed)
            print_times(f"areas, {kind.__doc__[:-1].lower()}", nearest)
        print()


if __name__ == "__main__":
    unittest.main()

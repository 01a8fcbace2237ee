import random
import unittest
from fractions import Fraction

from alljourneys.agreeing import agreeing, unlike_at
from alljourneys.atlases import Atlas
from alljourneys.building import without
from alljourneys.errors import BadNumber, NoRoad, TooMany, Unlike
from alljourneys.journeys import ended
from alljourneys.leastroads import instead, least_map, least_rows, needed, needed_until, same_prices
from alljourneys.letters import Letter
from alljourneys.maps import Map, Road, map_of

from atlas_lands import some_land
from helpers import Odd
from lands import error_of, prices_from
from test_letters import NO_RATIOS, letter_of, near_at

# r1 stands behind r0 with the same row; r2 leads back to where it begins; r3 is dearer than r0; r4 and r5 have a detour.
LAND = Map("spot a\nspot b\nroad r0 a b 0 0 3\nroad r1 a b 0 0 3 k\nroad r2 a a 0 0 1\nroad r3 a b 0 0 4\n"
           "road r4 a a 1 0 5\nroad r5 b a 1 0 2\nroad r6 b b 2 0 9")


def shuffled(chance, land):
    """The same map with its spots in another order."""
    spots = list(land.spots)
    chance.shuffle(spots)
    return map_of(spots, land.roads)


def with_roads(land, roads):
    return map_of(land.spots, roads)


def dearest(letter, ratio):
    """The greatest price of a road at a ratio, times its bottom."""
    plain = [road.price for road in letter.land.roads if road.name not in letter.letters]
    return max([ratio[0]] + [price * ratio[1] for price in plain])


def agree(one, other, ratio):
    """Whether the least prices at a ratio are the same, by plain waves: up to the dearest road they tell all."""
    most = max(dearest(one, ratio), dearest(other, ratio))
    return all(near_at(one, spot, ratio, most) == near_at(other, spot, ratio, most) for spot in one.land.spots)


def changed_letter(chance, letter):
    """A Letter over a map that is changed a little, or not at all, with its spots in another order."""
    roads = list(letter.land.roads)
    names = list(letter.letters)
    at = chance.randrange(len(roads))
    old = roads[at]
    kind = chance.randrange(5)
    if kind == 0:
        roads[at] = Road(old.name, old.start, old.end, old.shift, chance.randint(1, 6))
    elif kind == 1 and len(roads) > 1 and names != [old.name]:
        roads.pop(at)
        names = [name for name in names if name != old.name]
    elif kind == 2:
        roads.append(Road("new", old.start, old.end, old.shift, old.price + chance.randint(0, 3)))
    elif kind == 3:
        names = [chance.choice(roads).name]
    else:
        chance.shuffle(roads)
    return Letter(shuffled(chance, map_of(letter.land.spots, roads)), names)


def contains(span, ratio):
    low, high, has_low, has_high = span
    here = Fraction(*ratio)
    if high is not None and here == Fraction(*high):
        return has_high if high != low else has_low and has_high
    return (Fraction(*low) < here or (here == Fraction(*low) and has_low)) and (high is None or here < Fraction(*high))


class AgreeingTest(unittest.TestCase):
    def judge(self, one, other, ratios):
        spans = agreeing(one, other)
        self.assertIs(type(spans), tuple)
        self.assertEqual(spans, agreeing(other, one))
        ends = [Fraction(1)]
        for low, high, has_low, has_high in spans:
            self.assertIn(has_low, (True, False))
            self.assertIn(has_high, (True, False) if high is not None else (False,))
            self.assertTrue(Fraction(*low) >= ends[-1])
            if high is not None:
                self.assertTrue(Fraction(*low) < Fraction(*high) or (low == high and has_low and has_high))
            ends += [Fraction(*low), Fraction(*high or (10 ** 9, 1))]
        told = sorted(ends + [Fraction(*ratio) for ratio in ratios])
        told += [(here + there) / 2 for here, there in zip(told, told[1:])] + [told[-1] + 1, Fraction(1)]
        for here in told:
            ratio = (here.numerator, here.denominator)
            if ratio[0] > 60 * ratio[1] or ratio[1] > 60:
                continue
            right = agree(one, other, ratio)
            self.assertEqual(any(contains(span, ratio) for span in spans), right, (one.land.text, one.letters, ratio))
            self.judge_unlike(one, other, ratio, right)
        for one_span, two_span in zip(spans, spans[1:]):
            between = (Fraction(*one_span[1]) + Fraction(*two_span[0])) / 2
            self.assertFalse(agree(one, other, (between.numerator, between.denominator)))
        return spans

    def judge_unlike(self, one, other, ratio, right):
        told = unlike_at(one, other, ratio)
        if right:
            self.assertIsNone(told)
            return
        start, goal = told
        most = max(dearest(one, ratio), dearest(other, ratio))
        prices = [near_at(letter, start[0], ratio, most).get((goal[0], goal[1] - start[1], goal[2] - start[2]))
                  for letter in (one, other)]
        self.assertNotEqual(*prices)

    def test_by_hand(self):
        """[65] A letter road beside plain ones."""
        land = Map("spot a\nspot b\nroad r a b 0 0 7\nroad s a b 0 0 5\nroad t b b 1 0 2")
        other = Map("spot b\nspot a\nroad r a b 0 0 7\nroad t b b 1 0 2")
        self.assertEqual(self.judge(Letter(land, ("r",)), Letter(other, ["r"]), [(5, 1), (6, 1)]),
                         (((1, 1), (5, 1), True, True),))
        self.assertEqual(self.judge(Letter(land, ("r",)), Letter(land, ("r",)), []), (((1, 1), None, True, False),))
        plain = Map("spot a\nspot b\nroad u a b 0 0 3 k\nroad v b b 1 0 2\nroad w b b 9 9 1")
        self.assertEqual(self.judge(Letter(without(land, ["s"]), ("r",)), Letter(plain, ("w",)), []), ())
        same = Map("spot a\nspot b\nroad u a b 0 0 3 k\nroad v b b 1 0 2\nroad w a b 0 0 1")
        self.assertEqual(self.judge(Letter(without(land, ["s"]), ("r",)), Letter(same, ("w",)), [(3, 1)]),
                         (((1, 1), (3, 1), True, True),))
        steady = Map("spot a\nspot b\nroad u a b 0 0 3 k\nroad v b b 1 0 2\nroad w b b 0 0 1")
        self.assertEqual(self.judge(Letter(without(land, ["s"]), ("r",)), Letter(steady, ("w",)), [(3, 1)]),
                         (((3, 1), (3, 1), True, True),))

    def test_random(self):
        """[65] All letters at which plain waves tell the same prices, and no others, in as few spans as possible."""
        chance = random.Random(65)
        kinds = set()
        for _ in range(60):
            land = some_land(chance, chance.randint(1, 3), chance.randint(1, 6), chance.choice((1, 2)), 6)
            one = letter_of(chance, land, chance.randint(1, 2))
            other = changed_letter(chance, one)
            kinds.add(len(self.judge(one, other, [(3, 2), (7, 3)])))
        self.assertTrue(kinds >= {0, 1})

    def test_errors(self):
        """[65] Unlike ahead of BadNumber."""
        one = Letter(LAND, ("r0",))
        other = Letter(Map("spot a\nroad r a a 1 1 1"), ("r",))
        third = Letter(Map("spot a\nspot c\nroad r a a 1 1 1"), ("r",))
        for letter in (other, third):
            self.assertEqual(error_of(agreeing, one, letter), (Unlike, "spots"))
            self.assertEqual(error_of(agreeing, letter, one), (Unlike, "spots"))
            self.assertEqual(error_of(unlike_at, one, letter, None), (Unlike, "spots"))
        for value in NO_RATIOS:
            self.assertEqual(error_of(unlike_at, one, one, value)[:2], (BadNumber, "ratio"))


class LeastRoadsTest(unittest.TestCase):
    def plainly_needed(self, land):
        """The names of the needed roads, by the words of the document and plain waves."""
        names = []
        for at, road in enumerate(land.roads):
            goal = (road.end, *road.shift)
            if goal == (road.start, 0, 0):
                continue
            singles = [(other.price, k > at) for k, other in enumerate(land.roads)
                       if (other.start, other.end, other.shift) == (road.start, road.end, road.shift) and k != at]
            if any(price < road.price or (price == road.price and not behind) for price, behind in singles):
                continue
            # A journey of two or more roads has a first one, behind which the rest costs something.
            longs = [prices_from(land, (first.end, *first.shift), road.price - first.price).get(goal, 10 ** 9)
                     + first.price for first in land.roads_from(road.start)
                     if first.price < road.price and (first.end, *first.shift) != goal]
            if not any(price <= road.price for price in longs):
                names.append(road.name)
        return tuple(names)

    def judge(self, land):
        names = needed(land)
        self.assertEqual(names, self.plainly_needed(land))
        rows = [(r.start, r.end, *r.shift, r.price) for r in land.roads if r.name in names]
        self.assertEqual(least_rows(land), tuple(sorted(rows)))
        small = least_map(land)
        self.assertEqual(small.spots, land.spots)
        self.assertTrue(small.roads == tuple(road for road in land.roads if road.name in names))
        for road in land.roads:
            told = instead(land, road.name)
            if road.name in names:
                self.assertIsNone(told)
                continue
            self.assertTrue(all(name in names for name in told))
            place, price = ended(land, (road.start, 0, 0), told)
            self.assertEqual(place, (road.end, *road.shift))
            self.assertEqual(price, prices_from(land, (road.start, 0, 0), road.price)[place])
        return names

    def test_by_hand(self):
        """[66] [67] Equal roads, roads to their own start, and detours that cost just as much."""
        self.assertEqual(self.judge(LAND), ("r0", "r5", "r6"))
        self.assertEqual(instead(LAND, "r2"), ())
        self.assertEqual(instead(LAND, "r4"), ("r0", "r5"))
        self.assertEqual(instead(LAND, "r1"), ("r0",))
        self.assertEqual(least_rows(LAND), (("a", "b", 0, 0, 3), ("b", "a", 1, 0, 2), ("b", "b", 2, 0, 9)))
        self.assertEqual(self.judge(Map("spot a\nspot b")), ())
        self.assertEqual(self.judge(Map("spot a\nroad r a a 1 0 1\nroad s a a 2 0 2\nroad t a a 3 0 2")), ("r", "t"))
        for name in ("z", "a", None, 1, ["r0"], Odd()):
            self.assertEqual(error_of(instead, LAND, name)[0], NoRoad)

    def test_random(self):
        """[66] [67] Random maps, judged by plain waves."""
        chance = random.Random(66)
        for _ in range(150):
            self.judge(some_land(chance, chance.randint(1, 6), chance.randint(1, 24), chance.choice((0, 1, 2)),
                                 chance.choice((2, 6, 30))))

    def test_same_prices(self):
        """[66] [67] Two maps with other roads, and their spots in another order."""
        chance = random.Random(67)
        found = {True: 0, False: 0}
        for _ in range(150):
            land = some_land(chance, chance.randint(1, 4), chance.randint(2, 10), 1, 5)
            roads = list(land.roads)
            kind = chance.randrange(3)
            if kind == 0:
                old = roads.pop(chance.randrange(len(roads)))
            elif kind == 1:
                roads = list(least_map(land).roads)
                chance.shuffle(roads)
            else:
                old = roads[0]
                roads[0] = Road(old.name, old.start, old.end, old.shift, chance.randint(1, 5))
            other = shuffled(chance, with_roads(land, roads))
            told = same_prices(land, other)
            found[told is None] += 1
            if told is None:
                for spot in land.spots:
                    self.assertEqual(prices_from(land, (spot, 0, 0), 8), prices_from(other, (spot, 0, 0), 8))
                continue
            start, goal = told
            prices = [prices_from(one, start, 12).get(goal) for one in (land, other)]
            self.assertNotEqual(*prices)
        self.assertGreater(min(found.values()), 20)
        apart = Map("spot a\nroad r a a 1 0 1")
        start, goal = same_prices(apart, Map("spot a"))
        self.assertEqual((goal[0], goal[2] - start[2], (goal[1] - start[1]) > 0), ("a", 0, True))
        for other in (Map("spot b"), Map("spot a\nspot b")):
            self.assertEqual(error_of(same_prices, apart, other), (Unlike, "spots"))
            self.assertEqual(error_of(same_prices, other, apart), (Unlike, "spots"))

    def test_needed_until(self):
        """[68] The greatest price up to which a road is needed, by trying prices one by one."""
        chance = random.Random(68)
        told = []
        for _ in range(120):
            land = some_land(chance, chance.randint(1, 3), chance.randint(1, 7), chance.choice((0, 1, 2)),
                             chance.choice((2, 12)))
            road = chance.choice(land.roads)
            most = needed_until(land, road.name)
            told.append(most)
            for price in (1, 2, 3, 5, 8, 13, 21, 34, 40) if most is None else (most, most + 1, 1, 40):
                if 1 <= price <= 40:
                    roads = [other if other.name != road.name
                             else Road(road.name, road.start, road.end, road.shift, price) for other in land.roads]
                    is_needed = road.name in self.plainly_needed(with_roads(land, roads))
                    self.assertEqual(is_needed, most is None or price <= most, (land.text, road.name, price))
        self.assertIn(None, told)
        self.assertIn(0, told)

    def test_needed_until_by_hand(self):
        """[68] Single roads with the same ends, by their order; the price of the road itself means nothing."""
        for price in (1, 50, 99):
            land = Map(f"spot a\nroad e a a 1 0 8\nroad r a a 1 0 {price}\nroad f a a 1 0 7\nroad g a a 0 0 1")
            self.assertEqual([needed_until(land, name) for name in "erfg"],
                             [min(price, 7), 7, min(price - 1, 7), 0])
        land = Map("spot a\nroad r a a 1 0 5\nroad s a a 2 0 99\nroad t a a -1 3 98\nroad u a a 0 1 97")
        self.assertEqual([needed_until(land, name) for name in "rstu"], [None, 9, None, None])
        land = Map("spot a\nroad r a a 3 0 5\nroad s a a 1 0 80")
        self.assertEqual([needed_until(land, name) for name in "rs"], [239, None])
        land = Map("spot a\nspot b\nroad r a b 0 0 1\nroad s a b 0 0 9\nroad t a a 0 0 4\nroad u a a 1 0 3\n"
                   "road v b b -1 0 6")
        self.assertEqual(needed_until(land, "r"), 8 + 1)
        self.assertEqual(needed_until(Map("spot a\nroad r a a 1 0 5\nroad q a a 1 0 5"), "r"), 5)
        self.assertEqual(needed_until(Map("spot a\nroad r a a 1 0 5\nroad q a a 1 0 5"), "q"), 4)

    def test_needed_until_errors(self):
        """[68] NoRoad ahead of the error of Atlas."""
        wide = map_of([f"s{k}" for k in range(13)], [Road("r", "s0", "s0", (0, 0), 1)])
        for name in ("z", "s0", None, 1, ["r"], Odd()):
            self.assertEqual(error_of(needed_until, wide, name)[0], NoRoad)
        self.assertEqual(error_of(needed_until, wide, "r"), (TooMany, "spots", 13, 12))
        self.assertEqual(Atlas(LAND).least_price(("a", 0, 0), ("b", 0, 0)), 3)


if __name__ == "__main__":
    unittest.main()

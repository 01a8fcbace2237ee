import random
import unittest
from fractions import Fraction
from math import gcd

from alljourneys.errors import BadJourney, BadNumber, BadPlace, NoRoad, NoSpot, TakenName, TooLarge, TooMany
from alljourneys.letters import Letter, LetterFan, letter_fan_holds, sheet_at
from alljourneys.lines import needed_for, price_line
from alljourneys.maps import Map, Road, map_of
from alljourneys.sheets import Sheet
from alljourneys.stretches import Stretch, price_for, stretch_holds, stretches

from atlas_lands import land_of, some_land
from helpers import ODD_VALUES, Odd
from lands import error_of, prices_from
from test_journeys import NO_PLACES
from test_papers import covers_are_right, fan_is_right

LAND = Map("spot a\nspot b\nroad r a b 1 -2 3 k\nroad s b a 0 5 7\nroad t a a -1 0 2 l\nroad u b b 0 1 4")
NO_RATIOS = (None, 0, 1, True, (1, 0), (1, -1), (-1, -1), (2, 2), (4, 2), (1, 2), (0, 1), (-3, 1), [1, 1], (1, 1, 1), (1,), (),
             (True, 1), (1, True), ("1", 1), (1.0, 1), "1", Odd(), (Odd(), 1))


def letter_of(chance, land, many):
    return Letter(land, tuple(chance.sample([road.name for road in land.roads], min(many, len(land.roads)))))


def near_at(letter, start, ratio, most):
    """Least prices at a ratio, times its bottom, by plain waves up to so much."""
    top, bottom = ratio
    roads = [Road(r.name, r.start, r.end, r.shift, top if r.name in letter.letters else bottom * r.price)
             for r in letter.land.roads]

    class Priced:
        def roads_from(self, spot):
            return [road for road in roads if road.start == spot]

    return prices_from(Priced(), (start, 0, 0), most)


def row(letter, journey):
    names = [name for name in journey if name in letter.letters]
    return (sum(letter.land.road_named(name).price for name in journey if name not in letter.letters), len(names))


def letter_fan_is_right(letter, start, fan):
    """Whether a LetterFan of right kinds holds, by the words of the document."""
    zero = map_of(letter.land.spots, [Road(r.name, r.start, r.end, r.shift, 1) for r in letter.land.roads])
    rows = [row(letter, loop) for _, loop in fan.rounds]
    steps = fan.sheet.steps
    counted = Sheet(fan.sheet.base, len(fan.journey), steps, [len(loop) for _, loop in fan.rounds])
    plain = type("Fan", (), {"spot": fan.spot, "sheet": counted, "journey": fan.journey, "rounds": fan.rounds})
    return (fan_is_right(zero, start, plain) and row(letter, fan.journey) == (fan.sheet.price, fan.marks.price)
            and (fan.marks.base, fan.marks.steps) == (fan.sheet.base, steps)
            and rows == list(zip(fan.sheet.prices, fan.marks.prices)))


def stretch_is_right(letter, stretch):
    """Whether a Stretch of right kinds holds, by the words of the document."""
    if not all(letter_fan_is_right(letter, stretch.start, fan) for fan in stretch.fans):
        return False
    if not any(fan.spot == stretch.start and (0, 0) in fan.sheet and fan.sheet.price_at((0, 0)) <= 0
               and fan.marks.price_at((0, 0)) <= 0 for fan in stretch.fans):
        return False
    for ratio in (stretch.low, stretch.high):
        top, bottom = ratio or (1, 0)
        parts = [(fan.spot, Sheet(fan.sheet.base, bottom * fan.sheet.price + top * fan.marks.price, fan.sheet.steps,
                                  [bottom * p + top * m for p, m in zip(fan.sheet.prices, fan.marks.prices)]))
                 for fan in stretch.fans]
        priced = type("Land", (), {"roads_from": lambda _, spot: [
            Road(r.name, r.start, r.end, r.shift, top if r.name in letter.letters else bottom * r.price)
            for r in letter.land.roads_from(spot)]})()
        if not covers_are_right(priced, parts, stretch.covers):
            return False
    return True


class LetterTest(unittest.TestCase):
    def test_errors(self):
        """[58] The errors and their order; any values as letters."""
        many = map_of([f"s{k}" for k in range(13)], [Road("r", "s0", "s1", (0, 0), 1)])
        self.assertEqual(error_of(Letter, many, ()), (TooMany, "spots", 13, 12))
        self.assertEqual(error_of(Letter, LAND, ()), (BadNumber, "letters", 0))
        self.assertEqual(error_of(Letter, LAND, []), (BadNumber, "letters", 0))
        for value in ("z", "a", None, 1, True, ("r",), ["r"], {}, Odd()):
            self.assertEqual(error_of(Letter, LAND, ("r", value, "r"))[0], NoRoad)
        self.assertEqual(error_of(Letter, LAND, ("r", "z", "r")), (NoRoad, "z"))
        self.assertEqual(error_of(Letter, LAND, ("r", "s", "r", "z")), (TakenName, "r"))
        names = ["s", "r"]
        letter = Letter(LAND, names)
        names.append("t")
        self.assertTrue(letter.letters == ("s", "r") and letter.land == LAND)

    def test_rows(self):
        """[58] The row of a journey; the map at a price."""
        letter = Letter(LAND, ("r", "u"))
        self.assertEqual([letter.row_of(journey) for journey in ((), ("t",), ["r", "u", "u", "s"], ("t", "r"))],
                         [(0, 0), (2, 0), (7, 3), (2, 1)])
        for value in ("z", "r", "t", None, 1, ["s"], Odd()):
            self.assertEqual(error_of(letter.row_of, ["r", "u", value, "z"]), (BadJourney, 2))
        for value in ("z", "a", None, 1, ["s"], Odd()):
            self.assertEqual(error_of(letter.row_of, [value]), (BadJourney, 0))
        self.assertEqual([road.price for road in letter.at_price(99).roads], [99, 7, 2, 99])
        self.assertEqual([(r.name, r.label, r.shift) for r in letter.at_price(1).roads],
                         [(r.name, r.label, r.shift) for r in LAND.roads])
        for value in (0, -1, True, None, "1", 1.0, (1,), Odd()):
            self.assertEqual(error_of(letter.at_price, value), (BadNumber, "price", value))
        self.assertEqual(error_of(letter.at_price, 100), (TooLarge, "price", 100, 99))

    def test_fans(self):
        """[59] LetterFans that hold, and what each part of them must be."""
        letter = Letter(LAND, ("r", "u"))
        sheet = Sheet((1, -2), 0, ((-1, 0), (0, 1)), (2, 0))
        marks = Sheet((1, -2), 1, ((-1, 0), (0, 1)), (0, 1))
        rounds = ((0, ("t",)), (1, ("u",)))
        self.assertIs(letter_fan_holds(letter, "a", LetterFan("b", sheet, marks, ("r",), rounds)), True)
        zero = Sheet((0, 0), 0)
        self.assertTrue(letter_fan_holds(letter, "a", LetterFan("a", zero, zero, (), ())))
        parts = ("b", sheet, marks, ("r",), rounds)
        wrong = list(ODD_VALUES)
        for at in range(5):
            changed = list(ODD_VALUES) + ["a", marks, sheet, ["r"], ("r", "u"), ("t", "r"), rounds[::-1], rounds[:1], list(rounds),
                                          sheet.moved((0, 0), 1), marks.moved((0, 0), -1), sheet.moved((1, 0), 0),
                                          marks.moved((0, 1), 0), Sheet((1, -2), 1, ((0, 1), (-1, 0)), (1, 0)),
                                          Sheet((1, -2), 1, ((-1, 0), (0, 1)), (1, 1)),
                                          ((False, ("t",)), rounds[1]), (rounds[0], (True, ("u",))), ((0, ["t"]), rounds[1])]
            wrong += [LetterFan(*parts[:at], value, *parts[at + 1:]) for value in changed if value is not parts[at]]
        for value in wrong:
            self.assertIs(letter_fan_holds(letter, "a", value), False)
        fan = LetterFan(*parts)
        for spot in ("z", None, 1, ["a"]):
            self.assertEqual(error_of(letter_fan_holds, letter, spot, fan), (NoSpot, spot))
        self.assertTrue(sheet_at(fan, (5, 2)) == Sheet((1, -2), 5, sheet.steps, (4, 5)))
        self.assertTrue(sheet_at(fan, (1, 1)) == Sheet((1, -2), 1, sheet.steps, (2, 1)))
        for value in NO_RATIOS:
            self.assertEqual(error_of(sheet_at, fan, value), (BadNumber, "ratio", value))


class StretchTest(unittest.TestCase):
    def cases(self, seed, count):
        chance = random.Random(seed)
        yield chance, Letter(LAND, ("t",))
        yield chance, Letter(LAND, ("u", "r"))
        yield chance, Letter(Map("spot a\nroad r a a 1 0 3\nroad s a a 2 0 5\nroad t a a 0 1 1"), ("r",))
        yield chance, Letter(Map("spot a\nroad r a a 1 0 3\nroad s a a -1 0 5\nroad t a a 0 0 1"), ("s", "r", "t"))
        yield chance, Letter(Map("spot a\nspot b\nroad r a b 1 0 3\nroad s a b 1 0 5\nroad t a b 1 0 4"), ("s",))
        for _ in range(count):
            land = some_land(chance, chance.randint(1, 3), chance.randint(1, 8), chance.choice((1, 2)), 12)
            yield chance, letter_of(chance, land, chance.randint(1, 4))

    def ratios_of(self, chance, told):
        """Ratios at the ends of stretches, between, and behind."""
        found = [(1, 1), (10 ** 6, 1), (10 ** 40 + 1, 10 ** 39)]
        for stretch in told:
            found.append(stretch.low)
            top, bottom = stretch.low
            if stretch.high is not None:
                top, bottom = top * stretch.high[1] + stretch.high[0] * bottom, 2 * bottom * stretch.high[1]
            else:
                top, bottom = top + 3 * bottom, bottom
            found.append((top // gcd(top, bottom), bottom // gcd(top, bottom)))
        return chance.sample(found, min(5, len(found)))

    def test_stretches(self):
        """[60] [61] [62] [63] Stretches hold; prices are those of plain waves; lines have as few rows as possible."""
        for chance, letter in self.cases(60, 12):
            start = chance.choice(letter.land.spots)
            told = stretches(letter, start)
            self.assertIs(type(told), tuple)
            self.assertEqual([stretch.low for stretch in told], [(1, 1)] + [stretch.high for stretch in told[:-1]])
            self.assertIsNone(told[-1].high)
            for stretch in told:
                self.assertEqual(stretch.start, start)
                self.assertIs(stretch_holds(letter, stretch), True)
            for stretch in chance.sample(told, 1):
                self.assertTrue(stretch_is_right(letter, stretch))
            for ratio in self.ratios_of(chance, told):
                self.judge_prices(chance, letter, start, told, ratio)

    def judge_prices(self, chance, letter, start, told, ratio):
        top, bottom = ratio
        most = 8 * max(top if top < 20 * bottom else 0, bottom)
        near = near_at(letter, start, ratio, most)
        for spot in letter.land.spots:
            for cell in [(x, y) for x in range(-3, 4) for y in range(-3, 4)] + [(10 ** 60, 3), (0, 10 ** 60)]:
                price = price_for(told, (spot, *cell), ratio)
                exact = near.get((spot, *cell))
                if exact is not None:
                    self.assertEqual(price, (exact // gcd(exact, bottom), bottom // gcd(exact, bottom)))
                else:
                    self.assertTrue(price is None or Fraction(*price) * bottom > most)
                if price is not None:
                    self.assertTrue(price[1] > 0 and gcd(*price) == 1)
                if chance.random() < 0.4:
                    self.judge_line(told, (spot, *cell), ratio, price)

    def judge_line(self, told, goal, ratio, price):
        rows = price_line(told, goal)
        if price is None:
            self.assertEqual(rows, ())
            return
        self.assertEqual(rows[0][0], (1, 1))
        lows = [Fraction(*low) for low, _, _ in rows]
        self.assertEqual(lows, sorted(set(lows)))
        here = [row for row, low in zip(rows, lows) if low <= Fraction(*ratio)][-1]
        self.assertEqual(here[1] + here[2] * Fraction(*ratio), Fraction(*price))
        for one, other in zip(rows, rows[1:]):
            self.assertEqual(one[1] + one[2] * Fraction(*other[0]), other[1] + other[2] * Fraction(*other[0]))
            self.assertLess(other[2], one[2])

    def test_great_letters(self):
        """[61] [62] Where a letter is worth many other roads, finitely many stretches are enough, too."""
        chance = random.Random(66)
        for spots, roads, letters in (
                ("a b", "r0 b b 2 -1 1; r1 a a 2 1 3; r2 b b 0 0 1; r3 a b -2 -1 1; r4 a a -1 2 1; r5 a a 0 -2 2; "
                 "r6 b b 2 0 3; r7 b a 2 1 2", ("r0", "r1", "r3", "r6")),
                ("a b c", "r0 b c -1 -2 9; r1 c c 0 -1 8; r2 c b 1 -2 11; r3 b a 0 -2 4; r4 c b -1 -1 3; r5 a c 0 1 1; "
                 "r6 a a -2 0 11; r7 b b -2 1 10", ("r7", "r4", "r5", "r6")),
                ("a b", "r0 b a 2 1 10; r1 a a 1 -1 1; r2 a b -1 -1 4; r3 a a 2 2 10; r4 a a -2 0 1; r5 b b -1 1 5; "
                 "r6 b a -2 -1 1; r7 b b 1 0 4", ("r3",))):
            letter = Letter(land_of(spots, roads), letters)
            told = stretches(letter, "a")
            self.assertTrue(all(stretch_holds(letter, stretch) for stretch in told))
            for ratio in ((7, 3), (40, 1)):
                self.judge_prices(chance, letter, "a", told, ratio)
                near = near_at(letter, "a", ratio, 45 * ratio[1])
                for place, price in chance.sample(sorted(near.items()), min(200, len(near))):
                    self.assertEqual(Fraction(*price_for(told, place, ratio)), Fraction(price, ratio[1]))

    def test_plain_line(self):
        """[62] [63] A line that is known."""
        land = Map("spot a\nspot b\nroad r a b 0 0 9\nroad s a b 0 0 20\nroad t b b 0 0 1\nroad u a a 1 0 50\nroad v a a 1 0 1"
                   "\nroad w a a 1 0 1\nroad x b b -1 0 1")
        told = stretches(Letter(land, ("v", "x", "t")), "a")
        self.assertEqual(price_line(told, ("b", 0, 0)), (((1, 1), 9, 0),))
        self.assertEqual(price_line(told, ("a", 5, 0)), (((1, 1), 5, 0),))
        self.assertEqual(price_line(told, ("b", -2, 0)), (((1, 1), 9, 2),))
        self.assertEqual(price_line(told, ("b", 0, 1)), ())
        self.assertEqual(price_line(told, ("c", 0, 0)), ())
        self.assertIsNone(price_for(told, ("c", 0, 0), (1, 1)))
        told = stretches(Letter(land, ("v", "w")), "a")
        self.assertEqual(price_line(told, ("a", 3, 0)), (((1, 1), 0, 3), ((50, 1), 150, 0)))
        self.assertEqual(price_for(told, ("a", 3, 0), (3, 2)), (9, 2))
        self.assertEqual(price_for(told, ("a", 2, 0), (3, 2)), (3, 1))
        for place in NO_PLACES:
            self.assertEqual(error_of(price_line, told, place), (BadPlace, "goal"))
            self.assertEqual(error_of(price_for, told, place, None), (BadPlace, "goal"))
        for value in NO_RATIOS:
            self.assertEqual(error_of(price_for, told, ("a", 0, 0), value), (BadNumber, "ratio", value))
        for spot in ("z", None, 1, ["a"]):
            self.assertEqual(error_of(stretches, Letter(land, ("v",)), spot), (NoSpot, spot))

    def test_wrong(self):
        """[61] Any values, also within; trees are to hold at both ends."""
        letter = Letter(LAND, ("t", "u"))
        told = stretches(letter, "a")
        first = told[0]
        parts = (first.start, first.low, first.high, first.fans, first.covers)
        wrong = list(ODD_VALUES)
        for at, part in enumerate(parts):
            changed = list(ODD_VALUES) + ["b", "z", [1, 1], (2, 2), (1, 2), (True, 1), (0, 1)]
            if at > 2:
                changed += [list(part), part[1:], part[:-1]] + [(value,) + part[1:] for value in ODD_VALUES]
            if at == 2:
                changed += [first.low, (1, 1)]
            wrong += [Stretch(*parts[:at], value, *parts[at + 1:]) for value in changed
                      if not (type(value) is type(part) and value == part) and not (at == 2 and value is None)]
        for value in wrong:
            self.assertIs(stretch_holds(letter, value), False)
        for value in range(len(first.covers)):
            trees = first.covers[value]
            for new in (trees + ((("end", 0),),), list(trees), (("end", 0),) * len(trees), None):
                covers = first.covers[:value] + (new,) + first.covers[value + 1:]
                self.assertIs(stretch_holds(letter, Stretch("a", first.low, first.high, first.fans, covers)), False)

    def test_ends(self):
        """[60] What holds from low to high does so between; farther on it need not."""
        for chance, letter in self.cases(61, 5):
            start = letter.land.spots[0]
            for stretch in stretches(letter, start)[:4]:
                top, bottom = stretch.low
                if stretch.high is not None:
                    middle = Fraction(top + stretch.high[0], bottom + stretch.high[1])
                    middle = (middle.numerator, middle.denominator)
                    for low, high in ((stretch.low, middle), (middle, stretch.high)):
                        self.assertTrue(stretch_holds(letter, Stretch(start, low, high, stretch.fans, stretch.covers)))
                for high in (None, (top + bottom, bottom), (top + 100 * bottom, bottom)):
                    other = Stretch(start, stretch.low, high, stretch.fans, stretch.covers)
                    self.assertIs(stretch_holds(letter, other), stretch_is_right(letter, other))

    def is_needed(self, letter, name, ratio):
        """Whether a road is needed at a ratio, by plain waves: all that costs at most as much."""
        top, bottom = ratio
        land = letter.land
        road = land.road_named(name)

        def price(other):
            return top if other.name in letter.letters else bottom * other.price

        goal = (road.end, *road.shift)
        if goal == (road.start, 0, 0):
            return False
        roads = [Road(r.name, r.start, r.end, r.shift, price(r)) for r in land.roads if r.name != name]
        at = [r.name for r in land.roads].index(name)
        behind = {r.name for r in land.roads[at + 1:] if (r.start, r.end, r.shift) == (road.start, road.end, road.shift)
                  and price(r) == price(road)}

        class Rest:
            def roads_from(self, spot):
                return [other for other in roads if other.start == spot and other.name not in behind]

        near = prices_from(Rest(), (road.start, 0, 0), price(road))
        return goal not in near

    def test_needed(self):
        """[64] The span at which a road is needed."""
        kinds = set()
        for chance, letter in self.cases(64, 14):
            for road in letter.land.roads[:4]:
                span = needed_for(letter, road.name)
                ends = [] if span is None else [end for end in span[:2] if end is not None]
                ratios = [Fraction(1), Fraction(5, 3), Fraction(7, 2), Fraction(30)] + [Fraction(*end) for end in ends]
                ratios += [ratio + Fraction(sign, 1000) for ratio in ratios for sign in (1, -1)]
                for ratio in [ratio for ratio in ratios if ratio >= 1]:
                    self.assertEqual(self.is_needed(letter, road.name, (ratio.numerator, ratio.denominator)),
                                     self.is_in(span, ratio), (letter.land.text, letter.letters, road.name, span, ratio))
                kinds.add(None if span is None else (span[1] is None, span[2:]))
        self.assertGreaterEqual(len(kinds), 4)

    def is_in(self, span, ratio):
        if span is None:
            return False
        low, high, has_low, has_high = span
        self.assertTrue(type(has_low) is bool and type(has_high) is bool and (high is not None or has_high is False))
        if ratio == Fraction(*low):
            return has_low and (high is None or Fraction(*high) > ratio or has_high)
        return ratio > Fraction(*low) and (high is None or ratio < Fraction(*high) or (has_high and ratio == Fraction(*high)))

    def test_needed_beside(self):
        """[64] Roads beside one another: of equal ones the order decides; the empty journey counts."""
        land = Map("spot a\nspot b\nroad p a b 0 0 5\nroad q a b 0 0 5\nroad r a b 0 0 5\nroad z a a 0 0 1\nroad y a a 1 0 1")
        letter = Letter(land, ("q", "z"))
        self.assertEqual([needed_for(letter, name) for name in "pqrzy"],
                         [((5, 1), None, True, False), ((1, 1), (5, 1), True, False), None, None, ((1, 1), None, True, False)])
        letter = Letter(land, ("p",))
        self.assertEqual(needed_for(letter, "p"), ((1, 1), (5, 1), True, True))
        self.assertEqual(needed_for(letter, "q"), ((5, 1), None, False, False))
        self.assertEqual(needed_for(Letter(land, ("p", "q", "r")), "q"), None)
        one = Letter(Map("spot a\nspot b\nroad p a b 0 0 5\nroad q a b 0 0 1"), ("p",))
        self.assertEqual(needed_for(one, "p"), ((1, 1), (1, 1), True, True))
        self.assertEqual(needed_for(one, "q"), ((1, 1), None, False, False))
        for value in ("z", "a", None, 1, ["p"], Odd()):
            self.assertEqual(error_of(needed_for, one, value)[0], NoRoad)


if __name__ == "__main__":
    unittest.main()

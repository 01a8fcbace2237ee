import random
import unittest

from alljourneys.errors import BadNumber
from alljourneys.regions import Region, quarters, region_gap, region_holds
from alljourneys.sheets import Sheet

from helpers import ODD_VALUES, ahead, changed_trees, leaves, some_cells
from test_owners import small_sheet

NEAR = [(x, y) for x in range(-14, 15) for y in range(-14, 15)]


def random_row(chance, far):
    if chance.random() < 0.6:
        return ("least", chance.randint(-4, 4), chance.randint(-4, 4), chance.randint(-far, far))
    return ("rest", chance.randint(-12, 12), chance.randint(-12, 12), chance.randint(-far, far), chance.randint(1, 12))


def fits(row, cell):
    number = row[1] * cell[0] + row[2] * cell[1] + row[3]
    return number >= 0 if row[0] == "least" else number % row[4] == 0


def slowly_holds(region, trees):
    """region_holds for four tuples of plain nodes, by the words of the document."""
    for quarter, tree in zip(quarters(), trees):
        for node in tree:
            if not isinstance(node, tuple) or not node or type(node[0]) is not str:
                return False
            if node[0] in ("peel", "parts"):
                if len(node) != 2 or type(node[1]) is not int or not 1 + (node[0] == "parts") <= node[1] <= len(tree):
                    return False
            elif len(node) != (2 if node[0] in ("out", "end") else 1):
                return False
        found = leaves(2, tree)
        if found is None:
            return False
        for base, directions, node in found:
            told = []
            for row in region.rows:
                cells = [quarter.cell_of(base)] + [quarter.cell_of(ahead(base, d, 1)) for d in directions]
                numbers = [row[1] * x + row[2] * y + row[3] for x, y in cells]
                changes = [number - numbers[0] for number in numbers[1:]]
                if row[0] == "least":
                    told.append((numbers[0] >= 0 and all(c >= 0 for c in changes),
                                 numbers[0] < 0 and all(c <= 0 for c in changes)))
                else:
                    even = all(c % row[4] == 0 for c in changes)
                    told.append((even and numbers[0] % row[4] == 0, even and numbers[0] % row[4] != 0))
            if node == ("in",):
                if not all(held for held, _ in told):
                    return False
            elif node[0] != "out" or type(node[1]) is not int or not 0 <= node[1] < len(told) or not told[node[1]][1]:
                return False
    return True


class RegionTest(unittest.TestCase):
    def test_rows(self):
        """[14] Rows, `in`, & and lists."""
        rows = [["least", 1, -2, 3], ("rest", 2, 1, -1, 5)]
        region = Region(rows)
        rows.append(("least", 0, 0, -1))
        self.assertEqual(region.rows, (("least", 1, -2, 3), ("rest", 2, 1, -1, 5)))
        self.assertTrue(all(type(row) is tuple for row in region.rows))
        for cell in NEAR:
            self.assertIs(cell in region, all(fits(row, cell) for row in region.rows))
            self.assertIn(cell, Region(()))
        other = Region([("least", 0, 1, 0)])
        self.assertEqual((region & other).rows, region.rows + other.rows)
        self.assertEqual((other & region).rows, other.rows + region.rows)
        self.assertIsInstance(region & other, Region)
        self.assertEqual(len(region.rows), 2)
        big = 10 ** 399
        self.assertIn((-big, -big), Region([("least", -1, 1, 0), ("rest", 1, 0, 0, 10)]))

    def test_errors(self):
        """[14] The first row with an m below 1."""
        for m in (0, -3):
            with self.assertRaises(BadNumber) as caught:
                Region([("least", 1, 1, -5), ("rest", 1, 1, 1, 2), ("rest", 1, 1, 1, m), ("rest", 1, 1, 1, -9)])
            self.assertEqual((caught.exception.what, caught.exception.number), ("m", m))

    def test_quarters(self):
        """[14] The four sheets, which part the plane."""
        told = quarters()
        self.assertIs(type(told), tuple)
        self.assertEqual([(q.base, q.price, q.steps, q.prices) for q in told], [
            ((0, 0), 0, ((1, 0), (0, 1)), (0, 0)), ((-1, 0), 0, ((0, 1), (-1, 0)), (0, 0)),
            ((-1, -1), 0, ((-1, 0), (0, -1)), (0, 0)), ((0, -1), 0, ((0, -1), (1, 0)), (0, 0))])
        for cell in NEAR:
            self.assertEqual(sum(cell in quarter for quarter in told), 1)

    def test_of(self):
        """[14] Region.of has just the cells of the sheet."""
        chance = random.Random(14)
        for _ in range(60):
            sheet = small_sheet(chance)
            region = Region.of(sheet)
            for cell in NEAR + some_cells(sheet, 5):
                self.assertIs(cell in region, cell in sheet)
        for _ in range(15):
            sheet = small_sheet(chance, 40)
            if all(max(abs(x), abs(y)) <= 2 for x, y in sheet.steps):
                self.judge(Region.of(sheet), some_cells(sheet, 4))

    def judge(self, region, cells):
        """Judge the trees and sheets of a region by the words of the document."""
        trees = region.quarter_trees()
        self.assertTrue(region_holds(region, trees))
        self.assertTrue(slowly_holds(region, trees))
        self.assertEqual(trees, region.quarter_trees())
        sheets = region.sheets()
        self.assertIs(type(sheets), tuple)
        self.assertEqual(len(sheets), sum(node == ("in",) for tree in trees for node in tree))
        for sheet in sheets:
            self.assertEqual((sheet.price, sum(abs(price) for price in sheet.prices)), (0, 0))
        for cell in cells:
            self.assertEqual(sum(cell in sheet for sheet in sheets), int(cell in region))
        return trees

    def test_all_and_none(self):
        """[15] All cells, no cells, one cell."""
        everywhere = Region(())
        self.assertEqual(everywhere.quarter_trees(), ((("in",),),) * 4)
        self.assertEqual(len(self.judge(everywhere, NEAR)), 4)
        nowhere = Region([("least", 0, 0, -1)])
        self.assertEqual(nowhere.quarter_trees(), ((("out", 0),),) * 4)
        self.assertEqual(nowhere.sheets(), ())
        self.judge(Region([("rest", 2, 4, 1, 2)]), NEAR)
        point = Region([("least", 1, 0, -3), ("least", -1, 0, 3), ("least", 0, 1, 5), ("least", 0, -1, -5)])
        self.judge(point, NEAR)
        self.assertEqual([sheet.base for sheet in point.sheets()], [(3, -5)])
        self.assertEqual(region_gap(everywhere, point) in point, False)
        self.assertEqual(region_gap(point, nowhere), (3, -5))
        self.assertIsNone(region_gap(nowhere, point))
        self.assertIsNone(region_gap(point, everywhere))

    def test_gaps(self):
        """[15] Gaps that are not at the base of a sheet, by one direction or the other one."""
        for row in (("rest", 1, 0, 0, 2), ("rest", 0, 1, 0, 2), ("rest", 0, 1, 0, 7), ("rest", 2, 3, 0, 6),
                    ("least", 0, -1, 5), ("least", -1, 0, 5), ("least", 1, -3, 10 ** 60), ("least", -3, 1, 10 ** 60)):
            region = Region([("least", 1, 0, 0), ("least", 0, 1, 0)])
            cell = region_gap(region, Region([row]))
            self.assertTrue(cell in region and not fits(row, cell), row)
            if row[3] < 100:
                self.assertIsNone(region_gap(region & Region([row]), Region([row])))

    def test_random(self):
        """[15] Random regions, changed trees, gaps."""
        chance = random.Random(15)
        judged, gaps = {True: 0, False: 0}, 0
        for turn in range(160):
            far = chance.choice((3, 12))
            region = Region([random_row(chance, far) for _ in range(chance.randint(0, 4))])
            if sum(len(tree) for tree in region.quarter_trees()) > 1200:
                continue
            trees = self.judge(region, chance.sample(NEAR, 60))
            at = chance.randrange(4)
            for tree in changed_trees(chance, trees[at], 4):
                value = trees[:at] + (tree,) + trees[at + 1:]
                right = slowly_holds(region, value)
                self.assertIs(region_holds(region, value), right)
                judged[right] += 1
            other = Region(region.rows[:1] + tuple(random_row(chance, far) for _ in range(chance.randint(0, 1))))
            cell = region_gap(region, other)
            if cell is None:
                self.assertTrue(all(cell not in region or cell in other for cell in NEAR))
            else:
                self.assertTrue(cell in region and cell not in other)
                gaps += 1
            self.assertIsNone(region_gap(region & other, other))
        self.assertGreater(min(judged.values()), 5)
        self.assertGreater(gaps, 10)

    def test_limits(self):
        """[16] Six rows with numbers up to 12 and c up to 400."""
        chance = random.Random(6)
        for _ in range(60):
            rows = [("least", chance.randint(-12, 12), chance.randint(-12, 12), chance.randint(-400, 400))
                    if chance.random() < 0.6 else
                    ("rest", chance.randint(-12, 12), chance.randint(-12, 12), chance.randint(-400, 400),
                     chance.randint(1, 12)) for _ in range(6)]
            region = Region(rows)
            self.assertTrue(region_holds(region, region.quarter_trees()))
            cell = region_gap(region, Region([("least", 1, 1, 0)]))
            self.assertTrue(cell is None or (cell in region and cell[0] + cell[1] < 0))
        rows = [("rest", 1, 1, 0, m) for m in (12, 11, 7)] + [("least", 1, 0, 0)]
        self.assertEqual(region_gap(Region(rows), Region([("rest", 1, 1, 0, 12 * 11 * 7)])), None)

    def test_odd_values(self):
        """[15] Any value may be passed as trees."""
        region = Region([("least", 1, 0, 0)])
        trees = region.quarter_trees()
        self.assertIs(region_holds(region, trees), True)
        for value in ODD_VALUES + (list(trees), trees[:3], trees + trees[:1], trees[1:] + trees[:1]):
            self.assertIs(region_holds(region, value), False)
        for at in range(4):
            for value in ODD_VALUES + ((("in",),) if at in (1, 2) else (("out", 0),),):
                self.assertIs(region_holds(region, trees[:at] + (value,) + trees[at + 1:]), False)
        plane = (("in",),) * 1
        self.assertIs(region_holds(Region(()), (plane,) * 4), True)
        for end in (("out", 0), ("in", 0), ("own",), ("end", 0), ("out",), ("out", False)):
            self.assertIs(region_holds(Region(()), (plane,) * 3 + ((end,),)), False)


if __name__ == "__main__":
    unittest.main()

import random
import unittest

from alljourneys.counting import count_within
from alljourneys.errors import BadNumber
from alljourneys.sheets import Sheet

from helpers import least
from test_owners import small_sheet


def slowly_counted(sheets, price):
    """The number of cells within the price, cell by cell."""
    cells = set()
    for sheet in sheets:
        most = [max(0, (price - sheet.price) // number) for number in sheet.prices] + [0, 0]
        for i in range(most[0] + 1):
            for j in range(most[1] + 1):
                cell = sheet.cell_of((i, j)[:len(sheet.steps)])
                if sheet.price_at(cell) <= price:
                    cells.add(cell)
    return len(cells)


class CountingTest(unittest.TestCase):
    """Promise [16]."""

    def test_small(self):
        plane = Sheet((0, 0), 5, ((1, 0), (0, 1)), (1, 1))
        self.assertEqual([count_within([plane], price) for price in (-9, 4, 5, 6, 7, 105)], [0, 0, 1, 3, 6, 5151])
        ray = Sheet((0, 0), 5, ((3, 1),), (4,))
        self.assertEqual([count_within([ray], price) for price in (4, 5, 8, 9, 13)], [0, 1, 1, 2, 3])
        point = Sheet((0, 0), 5)
        self.assertEqual([count_within([point], price) for price in (4, 5, 10 ** 60)], [0, 1, 1])
        self.assertEqual(count_within([], 10), 0)
        self.assertEqual(count_within([plane, ray, point, plane], 105), 5151)

    def test_random(self):
        chance = random.Random(16)
        for _ in range(150):
            far, dear = chance.choice(((2, 3), (5, 8), (3, 20)))
            sheets = [small_sheet(chance, far, dear, 1) for _ in range(chance.randint(1, 4))]
            for price in (-dear - 1, 0, chance.randint(0, 25), 40):
                self.assertEqual(count_within(tuple(sheets), price), slowly_counted(sheets, price))

    def test_large(self):
        """A price of any size: the count is a formula, not a walk."""
        plane = Sheet((0, 0), 0, ((1, 0), (0, 1)), (1, 1))
        for most in (10 ** 60, 10 ** 399):
            self.assertEqual(count_within([plane], most), (most + 1) * (most + 2) // 2)
            self.assertEqual(count_within([plane, plane.moved((0, 0), 5)], most), (most + 1) * (most + 2) // 2)
        wide = Sheet((0, 0), 0, ((1, 0), (0, 1)), (3, 7))
        most = 21 * 10 ** 30
        # All (i, j) with 3 i + 7 j <= most, by columns of seven i at a time.
        self.assertEqual(count_within([wide], most), sum((most - 7 * j) // 3 + 1 for j in range(3)) * 10 ** 30
                         - 3 * 7 * (10 ** 30 * (10 ** 30 - 1) // 2) + 1)

    def test_limits(self):
        chance = random.Random(61)
        for _ in range(20):
            sheets = [small_sheet(chance, 40, 40, 1) for _ in range(4)]
            self.assertEqual(count_within(sheets, 150), slowly_counted(sheets, 150))
            self.assertGreaterEqual(count_within(sheets, 10 ** 50), count_within(sheets, 10 ** 49))

    def test_errors(self):
        bad = Sheet((0, 0), 0, ((1, 0), (0, 1)), (1, 0))
        worse = Sheet((0, 0), 0, ((1, 0),), (-7,))
        for sheets, number in (([bad], 0), ([bad, worse], 0), ([worse, bad], -7), ([Sheet((0, 0), -5), worse], -7)):
            with self.assertRaises(BadNumber) as caught:
                count_within(sheets, -100)
            self.assertEqual((caught.exception.what, caught.exception.number), ("prices", number))
        self.assertIsNone(least([], (0, 0)))


if __name__ == "__main__":
    unittest.main()

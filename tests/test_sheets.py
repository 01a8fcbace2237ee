import random
import unittest

from alljourneys.errors import BadSheet
from alljourneys.sheets import Sheet

from helpers import Odd, random_sheet, some_cells


class SheetTest(unittest.TestCase):
    def test_attributes(self):
        """[4] The four attributes, tuples also of lists, which are copied."""
        steps, prices = [(1, 2), (0, -3)], [4, -5]
        sheet = Sheet((1, 2), 3, steps, prices)
        steps.append((1, 1))
        prices[0] = 9
        self.assertEqual((sheet.base, sheet.price, sheet.steps, sheet.prices), ((1, 2), 3, ((1, 2), (0, -3)), (4, -5)))
        bare = Sheet((1, 2), 3)
        self.assertEqual((bare.steps, bare.prices), ((), ()))
        self.assertIs(type(sheet.steps), tuple)
        self.assertIs(type(sheet.prices), tuple)

    def test_errors(self):
        """[4] Steps first, then prices."""
        for steps in (((1, 0), (0, 1), (1, 1)), ((0, 0),), ((1, 0), (0, 0)), ((1, 2), (2, 4)), ((1, 2), (-1, -2)),
                      ((10 ** 60, 1), (10 ** 61, 10))):
            for prices in ((), (1,), (1, 2), (1, 2, 3)):
                with self.assertRaises(BadSheet) as caught:
                    Sheet((0, 0), 0, steps, prices)
                self.assertEqual(caught.exception.what, "steps")
        for steps, prices in (((), (1,)), (((1, 0),), ()), (((1, 0), (0, 1)), (1,)), (((1, 0), (0, 1)), (1, 2, 3))):
            with self.assertRaises(BadSheet) as caught:
                Sheet((0, 0), 0, steps, prices)
            self.assertEqual(caught.exception.what, "prices")

    def test_equal(self):
        """[4] == compares the four attributes; no other value is equal."""
        one = Sheet((1, 2), 3, ((1, 0),), (4,))
        self.assertTrue(one == Sheet((1, 2), 3, [(1, 0)], [4]))
        for other in (Sheet((1, 3), 3, ((1, 0),), (4,)), Sheet((1, 2), 4, ((1, 0),), (4,)), Sheet((1, 2), 3),
                      Sheet((1, 2), 3, ((2, 0),), (4,)), Sheet((1, 2), 3, ((1, 0),), (5,)), None, ((1, 2), 3), Odd()):
            self.assertFalse(one == other)

    def test_counts(self):
        """[5] counts, cell_of, price_at and `in` go together."""
        chance = random.Random(1)
        for _ in range(80):
            sheet = random_sheet(chance)
            known = {}
            for i in range(6):
                for j in range(6):
                    counts = (i, j)[:len(sheet.steps)]
                    known[sheet.cell_of(counts)] = counts
                    self.assertEqual(sheet.cell_of(list(counts)), (
                        sheet.base[0] + sum(c * s[0] for c, s in zip(counts, sheet.steps)),
                        sheet.base[1] + sum(c * s[1] for c, s in zip(counts, sheet.steps))))
            for cell, counts in known.items():
                self.assertTrue(cell in sheet)
                self.assertEqual(sheet.counts(cell), counts)
                self.assertEqual(sheet.price_at(cell), sheet.price + sum(c * p for c, p in zip(counts, sheet.prices)))
            reached = set(some_cells(sheet, 70))
            for x in range(-5, 6):
                for y in range(-5, 6):
                    self.assertEqual((x, y) in sheet, (x, y) in reached)
                    if (x, y) not in sheet:
                        self.assertIsNone(sheet.counts((x, y)))
                        self.assertIsNone(sheet.price_at((x, y)))

    def test_beside(self):
        """[5] Cells one step behind the base, beside a step, between two cells."""
        ray = Sheet((1, 1), 5, ((2, 4),), (-3,))
        self.assertEqual(ray.counts((1, 1)), (0,))
        self.assertEqual(ray.price_at((3, 5)), 2)
        for cell in ((-1, -3), (2, 3), (3, 6), (2, 1)):
            self.assertNotIn(cell, ray)
        fan = Sheet((0, 0), 1, ((2, 0), (0, -1)), (1, 10))
        self.assertEqual(fan.price_at((4, -2)), 23)
        for cell in ((1, 0), (-2, 0), (0, 1), (-2, -1)):
            self.assertNotIn(cell, fan)
        point = Sheet((3, 4), 7)
        self.assertEqual((point.counts((3, 4)), point.price_at((3, 4)), point.cell_of(())), ((), 7, (3, 4)))
        self.assertIsNone(point.counts((4, 3)))

    def test_far(self):
        """[5] Numbers of many digits."""
        for digits in (60, 399):
            big = 10 ** digits
            sheet = Sheet((big, -big), big, ((big, 1), (-1, big)), (-big, 7))
            for counts in ((0, 0), (big, 3), (big, big + 1)):
                cell = sheet.cell_of(counts)
                self.assertEqual(sheet.counts(cell), counts)
                self.assertEqual(sheet.price_at(cell), big - big * counts[0] + 7 * counts[1])
                self.assertNotIn((cell[0] + 1, cell[1]), sheet)
            self.assertNotIn(sheet.cell_of((-1, big)), sheet)

    def test_moved(self):
        """[6] The base and the price move, the rest stays, and the sheet itself stays, too."""
        sheet = Sheet((1, 2), 3, ((1, 0), (1, 5)), (4, -6))
        self.assertTrue(sheet.moved((10, -20), -30) == Sheet((11, -18), -27, ((1, 0), (1, 5)), (4, -6)))
        self.assertTrue(sheet == Sheet((1, 2), 3, ((1, 0), (1, 5)), (4, -6)))
        self.assertTrue(Sheet((0, 0), 0).moved((0, 0), 10 ** 400) == Sheet((0, 0), 10 ** 400))


if __name__ == "__main__":
    unittest.main()

import random
import unittest

from alljourneys.comparing import Dearer, dearer
from alljourneys.sheets import Sheet
from alljourneys.trees import tree_holds

from helpers import least, random_sheet, some_cells
from test_covers import split_sheets


class DearerTest(unittest.TestCase):
    """Promise [35]."""

    def judge(self, sheets, others, cells):
        told = dearer(sheets, others)
        self.assertIsInstance(told, Dearer)
        differences = []
        for cell in cells:
            low, high = least(sheets, cell), least(others, cell)
            if low is not None:
                differences.append(None if high is None else high - low)
        if told.kind == "none":
            self.assertEqual((told.most, told.cell, told.way, told.trees), (None,) * 4)
            self.assertEqual(len(sheets), 0)
        elif told.kind == "cut":
            self.assertEqual((told.most, told.way, told.trees), (None,) * 3)
            self.assertIsNotNone(least(sheets, told.cell))
            self.assertIsNone(least(others, told.cell))
        elif told.kind == "endless":
            self.assertNotIn(None, differences)
            self.assertEqual((told.most, told.trees), (None, None))
            for k in (0, 1, 2, 3, 5, 8, 50, 999, 10 ** 40):
                cell = (told.cell[0] + k * told.way[0], told.cell[1] + k * told.way[1])
                self.assertGreaterEqual(least(others, cell) - least(sheets, cell), k)
        else:
            self.assertEqual((told.kind, told.way), ("bounded", None))
            self.assertNotIn(None, differences)
            self.assertEqual(told.most, least(others, told.cell) - least(sheets, told.cell))
            self.assertTrue(all(number <= told.most for number in differences))
            self.assertIs(type(told.trees), tuple)
            self.assertEqual(len(told.trees), len(sheets))
            for sheet, tree in zip(sheets, told.trees):
                self.assertTrue(tree_holds(sheet.moved((0, 0), told.most), others, tree))
        return told

    def test_kinds(self):
        plane = Sheet((0, 0), 0, ((1, 0), (0, 1)), (1, 1))
        cells = some_cells(plane, 8)
        self.assertEqual(self.judge([], [plane], cells).kind, "none")
        self.assertEqual(self.judge((), (), cells).kind, "none")
        self.assertEqual(self.judge([plane], [], cells).kind, "cut")
        told = self.judge([plane], [plane.moved((0, 0), -3)], cells)
        self.assertEqual((told.kind, told.most), ("bounded", -3))
        steep = Sheet((0, 0), 0, ((1, 0), (0, 1)), (1, 2))
        self.assertEqual(self.judge([plane], [steep], cells).kind, "endless")
        # What the second sheet makes cheaper counts: the difference is to the least price.
        told = self.judge([plane, Sheet((2, 2), -50)], [plane], cells)
        self.assertEqual((told.kind, told.most, told.cell), ("bounded", 54, (2, 2)))

    def test_order_of_kinds(self):
        """A cut comes before what is endless, wherever the sheets stand."""
        plane = Sheet((0, 0), 0, ((1, 0), (0, 1)), (1, 1))
        steep = Sheet((0, 0), 0, ((1, 0), (0, 1)), (1, 2))
        point = Sheet((-1, 0), 0)
        for sheets in ([plane, point], [point, plane]):
            self.assertEqual(self.judge(sheets, [steep], []).kind, "cut")
            self.assertEqual(self.judge(sheets, [steep, point], []).kind, "endless")
            self.assertEqual(self.judge(sheets, [plane, point], []).kind, "bounded")

    def test_random(self):
        chance = random.Random(35)
        kinds = set()
        for _ in range(300):
            sheets = [random_sheet(chance) for _ in range(chance.randint(0, 3))]
            others = [random_sheet(chance) for _ in range(chance.randint(0, 2))]
            for sheet in sheets:
                for part in split_sheets(chance, sheet, chance.randint(0, 4)):
                    prices = [price + chance.choice((-1, 0, 0, 0, 1)) for price in part.prices]
                    if chance.random() < 0.97:
                        others.append(Sheet(part.base, part.price + chance.randint(-3, 3), part.steps, prices))
            cells = [cell for sheet in sheets for cell in some_cells(sheet, 6)]
            kinds.add(self.judge(sheets, others, cells).kind)
        self.assertEqual(kinds, {"none", "cut", "endless", "bounded"})


if __name__ == "__main__":
    unittest.main()

import random
import unittest

from alljourneys.covers import Cover, Gap, Rise, covered, rise
from alljourneys.sheets import Sheet
from alljourneys.trees import tree_holds

from helpers import least, random_sheet, some_cells


def split_sheets(chance, sheet, times):
    """Sheets that together have each cell of the sheet once: pieces of a tree."""
    pieces = [(sheet.base, list(zip(sheet.steps, sheet.prices)), sheet.price)]
    for _ in range(times):
        (x, y), steps, price = pieces.pop(chance.randrange(len(pieces)))
        if not steps:
            pieces.append(((x, y), steps, price))
            continue
        (p, q), more = steps[0]
        kind = chance.choice(("peel", "parts", "diagonal", "turn"))
        many = chance.randint(2, 3)
        bases = [((x + k * p, y + k * q), price + k * more) for k in range(many + 1)]
        if kind == "peel":
            pieces.extend((base, steps[1:], dear) for base, dear in bases[:many])
            pieces.append((bases[many][0], steps, bases[many][1]))
        elif kind == "parts" or len(steps) == 1:
            wide = [((many * p, many * q), many * more)] + steps[1:]
            pieces.extend((base, wide, dear) for base, dear in bases[:many])
        elif kind == "turn":
            pieces.append(((x, y), steps[::-1], price))
        else:
            (s, t), extra = steps[1]
            both = ((p + s, q + t), more + extra)
            pieces.append(((x, y), [steps[0], both], price))
            pieces.append(((x + s, y + t), [both, steps[1]], price + extra))
    return [Sheet(base, price, [step for step, _ in steps], [more for _, more in steps])
            for base, steps, price in pieces]


class CoverTest(unittest.TestCase):
    def judge(self, sheet, sheets, cells):
        """Judge the answers of covered and rise by the sentences of the document; they are returned."""
        told = covered(sheet, sheets)
        prices = [least(sheets, cell) for cell in cells]
        spare = [None if price is None else price - sheet.price_at(cell) for cell, price in zip(cells, prices)]
        if isinstance(told, Gap):
            self.assertIn(told.cell, sheet)
            price = least(sheets, told.cell)
            self.assertTrue(price is None or price > sheet.price_at(told.cell))
        else:
            self.assertIsInstance(told, Cover)
            self.assertTrue(tree_holds(sheet, sheets, told.tree))
            self.assertTrue(all(number is not None and number <= 0 for number in spare))
        up = rise(sheet, sheets)
        self.assertIsInstance(up, Rise)
        self.judge_rise(sheet, sheets, up, spare)
        self.assertEqual(isinstance(told, Cover), up.kind == "bounded" and up.most <= 0)
        return told, up

    def judge_rise(self, sheet, sheets, up, spare):
        if up.kind == "cut":
            self.assertEqual((up.most, up.way, up.tree), (None, None, None))
            self.assertIn(up.cell, sheet)
            self.assertIsNone(least(sheets, up.cell))
            return
        self.assertNotIn(None, spare)
        if up.kind == "endless":
            self.assertEqual((up.most, up.tree), (None, None))
            self.assertNotEqual(up.way, (0, 0))
            for k in list(range(20)) + [1000, 10 ** 50]:
                cell = (up.cell[0] + k * up.way[0], up.cell[1] + k * up.way[1])
                self.assertIn(cell, sheet)
                self.assertGreaterEqual(least(sheets, cell) - sheet.price_at(cell), k)
            return
        self.assertEqual((up.kind, up.way), ("bounded", None))
        self.assertEqual(least(sheets, up.cell) - sheet.price_at(up.cell), up.most)
        self.assertGreaterEqual(up.most, max(spare))
        self.assertTrue(tree_holds(sheet.moved((0, 0), up.most), sheets, up.tree))

    def test_none(self):
        """[10] [11] No sheets at all."""
        for steps in ((), ((1, 2),), ((1, 0), (0, 1))):
            sheet = Sheet((3, 4), 5, steps, (1,) * len(steps))
            self.assertIsInstance(covered(sheet, ()), Gap)
            self.assertIn(covered(sheet, []).cell, sheet)
            self.assertEqual(rise(sheet, []).kind, "cut")

    def test_itself(self):
        """[10] [11] A sheet over itself, dearer and cheaper."""
        for steps in ((), ((1, 2),), ((1, 0), (0, 1)), ((3, -5), (-12, 7))):
            sheet = Sheet((3, 4), 5, steps, (-1,) * len(steps))
            self.assertIsInstance(covered(sheet, [sheet]), Cover)
            self.assertIsInstance(covered(sheet, [sheet.moved((0, 0), 1)]), Gap)
            for more in (-10 ** 60, -1, 0, 1, 10 ** 60):
                up = rise(sheet, [sheet.moved((0, 0), more)])
                self.assertEqual((up.kind, up.most), ("bounded", more))

    def test_kinds(self):
        """[11] Each kind, with one step and with two."""
        ray = Sheet((0, 0), 0, ((1, 0),), (1,))
        plane = Sheet((0, 0), 0, ((1, 0), (0, 1)), (1, 1))
        self.assertEqual(self.judge(ray, [Sheet((0, 0), 0, ((2, 0),), (2,))], some_cells(ray, 9))[1].kind, "cut")
        dear = [Sheet((0, 0), 0, ((2, 0),), (3,)), Sheet((1, 0), -50, ((2, 0),), (3,))]
        self.assertEqual(self.judge(ray, dear, some_cells(ray, 90))[1].kind, "endless")
        sheets = [Sheet((0, 0), 7, ((1, 0),), (0,)), Sheet((0, 0), -3, ((1, 0),), (2,))]
        up = self.judge(ray, sheets, some_cells(ray, 30))[1]
        self.assertEqual((up.kind, up.most), ("bounded", 2))
        for steps in (((1, 1), (0, 1)), ((1, 0), (0, 2)), ((1, 0),)):
            sheets = [Sheet((0, 0), -5, steps, (1,) * len(steps))]
            self.assertEqual(self.judge(plane, sheets, some_cells(plane, 9))[1].kind, "cut")
        sheets = [Sheet((0, 0), 0, ((1, 0), (1, 1)), (0, 2)), Sheet((0, 1), 2, ((1, 1), (0, 1)), (2, 1))]
        self.assertEqual(self.judge(plane, sheets, some_cells(plane, 9))[1].kind, "bounded")
        # Only the cells on a line become dearer without end.
        sheets[0] = Sheet((0, 0), 0, ((1, 0), (1, 1)), (2, 2))
        self.assertEqual(self.judge(plane, sheets, some_cells(plane, 9))[1].kind, "endless")

    def test_missing_cells(self):
        """[10] [11] A single cell is missing, or had for more only."""
        plane = Sheet((0, 0), 0, ((1, 0), (0, 1)), (1, 1))
        rest = [Sheet((0, 3), 3, ((1, 0), (0, 1)), (1, 1)), Sheet((6, 0), 6, ((1, 0), (0, 1)), (1, 1)),
                Sheet((0, 0), 0, ((1, 0),), (1,)), Sheet((0, 2), 2, ((1, 0),), (1,))]
        points = [Sheet((k, 1), k + 1) for k in range(6)]
        self.assertIsInstance(self.judge(plane, rest + points, some_cells(plane, 9))[0], Cover)
        for k in range(6):
            told, up = self.judge(plane, rest + points[:k] + points[k + 1:], some_cells(plane, 9))
            self.assertEqual((told.cell, up.kind, up.cell), ((k, 1), "cut", (k, 1)))
            dear = rest + points[:k] + [points[k].moved((0, 0), 400)] + points[k + 1:]
            told, up = self.judge(plane, dear, some_cells(plane, 9))
            self.assertEqual((told.cell, up.kind, up.most, up.cell), ((k, 1), "bounded", 400, (k, 1)))

    def test_lists(self):
        """[2] Lists and tuples of sheets, and copies of sheets, give the same; the list stays as it is."""
        plane = Sheet((0, 0), 0, [(1, 0), (0, 1)], [1, 1])
        sheets = [Sheet((0, 0), 0, [(2, 0), (0, 1)], [2, 1]), Sheet((1, 0), 1, [(2, 0), (0, 1)], [2, 1])]
        kept = list(sheets)
        self.assertEqual(covered(plane, sheets).tree, covered(plane, tuple(sheets)).tree)
        self.assertIs(type(covered(plane, sheets).tree), tuple)
        self.assertTrue(all(one is other for one, other in zip(sheets, kept)) and len(sheets) == len(kept))

    def test_far_apart(self):
        """[10] [11] Bases far apart: answers must not go through cells one by one."""
        plane = Sheet((0, 0), 0, ((1, 0), (0, 1)), (1, 1))
        far = 10 ** 60
        for base in ((far, 0), (0, far), (far, far)):
            self.judge(plane, [plane.moved(base, -far)], some_cells(plane, 3))
        self.assertIsInstance(self.judge(plane, [plane.moved((-far, -far), 0)], some_cells(plane, 3))[0], Gap)
        self.assertEqual(rise(plane, [plane.moved((-far, -far), 0)]).most, 2 * far)

    def test_limits(self):
        """[16] Forty sheets with steps up to 12 and numbers up to 400."""
        chance = random.Random(8)
        for _ in range(40):
            sheet = Sheet((chance.randint(-99, 99), chance.randint(-99, 99)), chance.randint(-400, 400),
                          ((1, 0), (0, 1)) if chance.random() < 0.5 else ((2, 1), (-1, 3)),
                          (chance.randint(0, 20), chance.randint(0, 20)))
            sheets = [random_sheet(chance, chance.choice((1, 3, 12)), 400, 400) for _ in range(36)]
            sheets.append(sheet.moved((0, 0), chance.randint(0, 300)))
            for far in (5, 40, 150):
                prices = [price - chance.randint(0, 3) for price in sheet.prices]
                more = Sheet(sheet.base, sheet.price, sheet.steps, prices)
                sheets.append(more.moved(sheet.cell_of((far, far)), chance.randint(-400, 400)).moved(
                    (-sheet.base[0], -sheet.base[1]), 0))
            chance.shuffle(sheets)
            self.judge(sheet, sheets, some_cells(sheet, 12))

    def test_random(self):
        """[10] [11] Random sheets, many of which just cover."""
        chance = random.Random(3)
        kinds = set()
        for turn in range(700):
            sheet = random_sheet(chance)
            sheets = [random_sheet(chance) for _ in range(chance.randint(0, 4))]
            if turn % 3:
                for part in split_sheets(chance, sheet, chance.randint(0, 6)):
                    if chance.random() < 0.97:
                        prices = [price + chance.choice((-1, 0, 0, 0, 0, 1)) for price in part.prices]
                        sheets.append(Sheet(part.base, part.price + chance.choice((-2, 0, 0, 3)), part.steps, prices))
            chance.shuffle(sheets)
            told, up = self.judge(sheet, sheets, some_cells(sheet, 10))
            kinds.add((type(told), up.kind, len(sheet.steps)))
        self.assertGreaterEqual(len(kinds), 9)


if __name__ == "__main__":
    unittest.main()

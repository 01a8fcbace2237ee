import random
import unittest

from alljourneys.owners import Part, least_at, owned, owners_hold, parts_of
from alljourneys.sheets import Sheet

from helpers import ODD_VALUES, changed_trees, has_piece, leaves, on_piece, random_sheet, some_cells, stays_above


def is_out(sheet, other, base, directions, is_behind):
    """Whether other is out on a piece of the sheet by one of the conditions of ("own",)."""
    counts, offsets, (spare, changes) = on_piece(sheet, other, base, directions)
    for number, moves in counts:
        if number < 0 and all(move <= 0 for move in moves):
            return True
        if number.denominator != 1 and all(move.denominator == 1 for move in moves):
            return True
    for number, moves in offsets:
        for side in (1, -1):
            if side * number < 0 and all(side * move <= 0 for move in moves):
                return True
    return stays_above((-spare, [-change for change in changes]), 0) and (spare < 0 or is_behind)


def slowly_hold(sheets, trees):
    """owners_hold for tuples of tuples of nodes, by the words of the document."""
    if not isinstance(trees, tuple) or len(trees) != len(sheets):
        return False
    for index, tree in enumerate(trees):
        sheet = sheets[index]
        for node in tree:
            if not isinstance(node, tuple) or not node or type(node[0]) is not str:
                return False
            if node[0] in ("peel", "parts"):
                if len(node) != 2 or type(node[1]) is not int or not 1 + (node[0] == "parts") <= node[1] <= len(tree):
                    return False
            elif len(node) != (2 if node[0] == "end" else 1):
                return False
        found = leaves(len(sheet.steps), tree)
        if found is None:
            return False
        for base, directions, node in found:
            if node == ("own",):
                if not all(is_out(sheet, other, base, directions, k > index)
                           for k, other in enumerate(sheets) if k != index):
                    return False
                continue
            if node[0] != "end" or type(node[1]) is not int or not 0 <= node[1] < len(sheets) or node[1] == index:
                return False
            if not has_piece(sheet, sheets[node[1]], base, directions, node[1] > index):
                return False
    return True


def small_sheet(chance, far=6, dear=6, cheapest=-6):
    """A sheet within the limits of [16] for owned: steps up to 4 that span at most 8."""
    while True:
        sheet = random_sheet(chance, chance.choice((1, 2, 4)), far, dear)
        steps = sheet.steps
        if len(steps) == 1 and steps[0][0] ** 2 + steps[0][1] ** 2 > 8:
            continue
        if len(steps) == 2 and abs(steps[0][0] * steps[1][1] - steps[0][1] * steps[1][0]) > 8:
            continue
        return Sheet(sheet.base, sheet.price, steps, [chance.randint(cheapest, dear) for _ in steps])


class OwnersTest(unittest.TestCase):
    def judge(self, sheets, cells):
        """Judge all answers about these sheets by the words of the document."""
        trees = owned(sheets)
        self.assertTrue(owners_hold(sheets, trees))
        self.assertTrue(slowly_hold(sheets, trees))
        parts = parts_of(sheets)
        self.assertTrue(all(type(part) is Part for part in parts))
        ends = [(index, node) for index, tree in enumerate(trees) for node in tree if node == ("own",)]
        self.assertEqual([part.index for part in parts], [index for index, _ in ends])
        for cell in cells:
            prices = [(sheet.price_at(cell), index) for index, sheet in enumerate(sheets) if cell in sheet]
            found = [(part.sheet.price_at(cell), part.index) for part in parts if cell in part.sheet]
            self.assertEqual(found, [min(prices)] if prices else [])
            self.assertEqual(least_at(sheets, cell), min(prices) if prices else None)
        return trees

    def test_none(self):
        """[12] [13] No sheets."""
        self.assertEqual((owned(()), parts_of([]), least_at([], (0, 0))), ((), (), None))
        self.assertIs(owners_hold([], ()), True)
        self.assertIs(owners_hold([], ((),)), False)

    def test_alone(self):
        """[12] [13] A single sheet has all of its cells."""
        for steps in ((), ((1, 2),), ((1, 0), (0, 2))):
            sheet = Sheet((3, 4), 5, steps, (-1,) * len(steps))
            self.assertEqual(owned([sheet]), ((("own",),),))
            part = parts_of([sheet])[0]
            self.assertEqual(part.index, 0)
            self.assertTrue(part.sheet == sheet)

    def test_equal_prices(self):
        """[12] Of several sheets with the least price, the lower index decides."""
        for steps in ((), ((1, 2),), ((1, 0), (0, 2))):
            sheet = Sheet((3, 4), 5, steps, (-1,) * len(steps))
            self.assertTrue(owners_hold([sheet, sheet], ((("own",),), (("end", 0),))))
            self.assertFalse(owners_hold([sheet, sheet], ((("end", 1),), (("own",),))))
            self.assertFalse(owners_hold([sheet, sheet], ((("own",),), (("own",),))))
            self.assertFalse(owners_hold([sheet, sheet], ((("end", 1),), (("end", 0),))))
            self.assertFalse(owners_hold([sheet, sheet], ((("end", 0),), (("end", 0),))))
            self.assertEqual([part.index for part in parts_of([sheet] * 3)], [0])
            self.assertEqual(least_at([sheet] * 3, (3, 4)), (5, 0))
            self.assertEqual(least_at([sheet, sheet.moved((0, 0), -1)], (3, 4)), (4, 1))
            self.assertIsNone(least_at([sheet], (2, 4)))
            cheap = [sheet, sheet.moved((0, 0), -1)]
            self.assertTrue(owners_hold(cheap, ((("end", 1),), (("own",),))))
            self.assertFalse(owners_hold(cheap, ((("own",),), (("end", 0),))))

    def test_lines(self):
        """[12] Cells beside a step, and between the cells of another sheet."""
        plane = Sheet((0, 0), 0, ((1, 0), (0, 1)), (2, 2))
        cells = some_cells(plane, 12) + [(-1, 0), (0, -1), (-3, 5)]
        for other in (Sheet((3, 0), 1, ((0, 1),), (2,)), Sheet((0, 0), 0, ((1, 1),), (3,)),
                      Sheet((0, 0), 4, ((2, 0), (0, 2)), (1, 1)), Sheet((5, 5), 3),
                      Sheet((6, 2), -9, ((-1, 0), (0, 1)), (1, 2)),
                      Sheet((-2, 9), 5, ((2, -1),), (1,))):
            for sheets in ([plane, other], [other, plane]):
                self.judge(sheets, cells + some_cells(other, 9))

    def test_random(self):
        """[12] [13] Random sheets within the limits; equal lists give equal trees; changed trees."""
        chance = random.Random(12)
        judged = {True: 0, False: 0}
        for turn in range(220):
            dear = chance.choice((2, 6, 40))
            far = chance.choice((2, 6)) if dear < 40 else 2
            sheets = [small_sheet(chance, far, dear, -dear) for _ in range(chance.randint(1, 4))]
            if sum(len(tree) for tree in owned(sheets)) > 1500:
                continue
            cells = [(chance.randint(-9, 9), chance.randint(-9, 9)) for _ in range(15)]
            cells += [sheet.cell_of([chance.randint(0, 9) for _ in sheet.steps]) for sheet in sheets for _ in range(9)]
            trees = self.judge(sheets, cells)
            copies = tuple(Sheet(one.base, one.price, list(one.steps), list(one.prices)) for one in sheets)
            self.assertEqual(owned(copies), trees)
            at = chance.randrange(len(sheets))
            for tree in changed_trees(chance, trees[at], 5):
                value = trees[:at] + (tree,) + trees[at + 1:]
                right = slowly_hold(sheets, value)
                self.assertIs(owners_hold(sheets, value), right)
                judged[right] += 1
        self.assertGreater(min(judged.values()), 5)

    def test_odd_values(self):
        """[12] Any value may be passed as trees."""
        sheets = [Sheet((0, 0), 0, ((1, 0),), (1,)), Sheet((0, 0), 1, ((2, 0),), (1,))]
        for value in ODD_VALUES:
            for many in (0, 1, 2):
                self.assertIs(owners_hold(sheets[:many], value), many == 0 and value == () and type(value) is tuple)
                self.assertIs(owners_hold(sheets[:1], (value,)), False)
        self.assertIs(owners_hold(sheets, list(owned(sheets))), False)
        self.assertIs(owners_hold(sheets, owned(sheets) + owned(sheets[:1])), False)
        self.assertIs(owners_hold(sheets, owned(sheets)[:1]), False)

    def test_far_prices(self):
        """[12] The limits of [16]: prices that meet only far away do not make a node for each cell."""
        chance = random.Random(4)
        for _ in range(60):
            sheets = [small_sheet(chance, 40, 40, chance.choice((-40, 1))) for _ in range(4)]
            trees = owned(sheets)
            self.assertTrue(owners_hold(sheets, trees))


if __name__ == "__main__":
    unittest.main()

import random
import unittest

from alljourneys.covers import Cover, covered
from alljourneys.sheets import Sheet
from alljourneys.trees import tree_holds

from helpers import ODD_VALUES, changed_trees, has_piece, leaves, random_sheet

PLANE = Sheet((0, 0), 0, ((1, 0), (0, 1)), (1, 1))
RAY = Sheet((0, 0), 0, ((1, 0),), (1,))
POINT = Sheet((0, 0), 0)


def slowly_holds(sheet, sheets, tree):
    """tree_holds for tuples of nodes, by the words of the document."""
    if not isinstance(tree, tuple) or not all(isinstance(node, tuple) and node for node in tree):
        return False
    for node in tree:
        word = node[0]
        if word in ("peel", "parts"):
            least = 1 if word == "peel" else 2
            if len(node) != 2 or type(node[1]) is not int or not least <= node[1] <= len(tree):
                return False
        elif word in ("diagonal", "turn"):
            if len(node) != 1:
                return False
        elif word != "end" or len(node) != 2 or type(node[1]) is not int or not 0 <= node[1] < len(sheets):
            return False
    found = leaves(len(sheet.steps), tree)
    return found is not None and all(has_piece(sheet, sheets[node[1]], base, directions)
                                     for base, directions, node in found)


class TreeTest(unittest.TestCase):
    def test_one_end(self):
        """[7] [9] A tree of one end, over sheets with no, one and two steps."""
        for sheet in (PLANE, RAY, POINT):
            self.assertIs(tree_holds(sheet, [sheet], (("end", 0),)), True)
            self.assertIs(tree_holds(sheet, [sheet.moved((0, 0), 1)], (("end", 0),)), False)
            self.assertIs(tree_holds(sheet, [sheet.moved((0, 0), -1)], (("end", 0),)), True)
            self.assertIs(tree_holds(sheet, [sheet.moved((1, 0), -9)], (("end", 0),)), False)
            self.assertIs(tree_holds(sheet, (), (("end", 0),)), False)
            self.assertIs(tree_holds(sheet, [sheet], ()), False)
            self.assertIs(tree_holds(sheet, [sheet], (("end", 0), ("end", 0))), False)
        self.assertTrue(tree_holds(RAY, [POINT, PLANE], (("end", 1),)))
        self.assertFalse(tree_holds(RAY, [POINT, PLANE], (("end", 0),)))
        self.assertFalse(tree_holds(PLANE, [RAY], (("end", 0),)))

    def test_nodes(self):
        """[8] Each node parts a piece as told, and only where it may."""
        even, odd = Sheet((0, 0), 0, ((2, 0), (0, 1)), (2, 1)), Sheet((1, 0), 1, ((2, 0), (0, 1)), (2, 1))
        self.assertTrue(tree_holds(PLANE, [even, odd], (("parts", 2), ("end", 0), ("end", 1))))
        self.assertFalse(tree_holds(PLANE, [even, odd], (("parts", 2), ("end", 1), ("end", 0))))
        low, high = Sheet((0, 0), 0, ((1, 0), (1, 1)), (1, 2)), Sheet((0, 1), 1, ((1, 1), (0, 1)), (2, 1))
        self.assertTrue(tree_holds(PLANE, [low, high], (("diagonal",), ("end", 0), ("end", 1))))
        side, rest = Sheet((0, 0), 0, ((0, 1),), (1,)), Sheet((1, 0), 1, ((1, 0), (0, 1)), (1, 1))
        self.assertTrue(tree_holds(PLANE, [side, rest], (("peel", 1), ("end", 0), ("end", 1))))
        self.assertFalse(tree_holds(PLANE, [side, rest], (("turn",), ("peel", 1), ("end", 0), ("end", 1))))
        low = Sheet((0, 0), 0, ((1, 0),), (1,))
        rest = Sheet((0, 1), 1, ((1, 0), (0, 1)), (1, 1))
        self.assertTrue(tree_holds(PLANE, [low, rest], (("turn",), ("peel", 1), ("end", 0), ("end", 1))))
        self.assertTrue(tree_holds(PLANE, [PLANE], (("turn",), ("turn",), ("end", 0))))
        for sheet in (RAY, POINT):
            for node in ("diagonal", "turn"):
                self.assertFalse(tree_holds(sheet, [sheet], ((node,), ("end", 0), ("end", 0))))
                self.assertFalse(tree_holds(sheet, [sheet], ((node,), ("end", 0))))
        for node in (("peel", 1), ("parts", 2)):
            self.assertFalse(tree_holds(POINT, [POINT], (node, ("end", 0), ("end", 0))))
            self.assertTrue(tree_holds(RAY, [RAY], (node, ("end", 0), ("end", 0))))
        for node in (("peel", 0), ("parts", 1), ("peel", True), ("peel", -1), ("peel",), ("peel", 1, 1),
                     ("parts", 1.0)):
            for ends in range(4):
                self.assertFalse(tree_holds(RAY, [RAY], (node,) + (("end", 0),) * ends))

    def test_huge_many(self):
        """[8] A many above the number of nodes behind it makes no tree."""
        for many in (3, 10 ** 9, 10 ** 399):
            for word in ("peel", "parts"):
                self.assertFalse(tree_holds(RAY, [RAY], ((word, many), ("end", 0), ("end", 0))))
                self.assertFalse(tree_holds(PLANE, [PLANE], ((word, 2000),) * 2001 + (("end", 0),) * 2000))

    def test_odd_values(self):
        """[9] Any value may be passed; only a tuple is a tuple, and a bool is no integer."""
        for sheet in (PLANE, RAY, POINT):
            for value in ODD_VALUES:
                self.assertIs(tree_holds(sheet, [sheet], value), False)

    def test_ends(self):
        """[9] What an end asks: whole counts from 0 on, offsets 0, prices."""
        sheet = Sheet((0, 0), 10, ((2, 0), (0, 2)), (5, 5))
        self.assertTrue(tree_holds(sheet, [Sheet((0, 0), 10, ((1, 0), (0, 1)), (2, 2))], (("end", 0),)))
        self.assertTrue(tree_holds(sheet, [Sheet((-1, 0), 10, ((1, 0), (0, 1)), (0, 2))], (("end", 0),)))
        self.assertFalse(tree_holds(sheet, [Sheet((0, 0), 10, ((1, 0), (0, 1)), (3, 2))], (("end", 0),)))
        self.assertFalse(tree_holds(sheet, [Sheet((0, 0), 9, ((1, 0), (0, 1)), (3, 2))], (("end", 0),)))
        self.assertFalse(tree_holds(sheet, [Sheet((0, 0), 10, ((4, 0), (0, 1)), (2, 2))], (("end", 0),)))
        self.assertFalse(tree_holds(sheet, [Sheet((1, 0), 0, ((2, 0), (0, 1)), (0, 0))], (("end", 0),)))
        self.assertFalse(tree_holds(sheet, [Sheet((2, 0), 0, ((2, 0), (0, 1)), (0, 0))], (("end", 0),)))
        ray = Sheet((0, 1), 0, ((1, 1),), (3,))
        self.assertTrue(tree_holds(ray, [Sheet((-5, -4), -20, ((1, 1),), (3,))], (("end", 0),)))
        self.assertFalse(tree_holds(ray, [Sheet((-5, -5), -20, ((1, 1),), (3,))], (("end", 0),)))
        self.assertFalse(tree_holds(ray, [Sheet((-5, -4), -20, ((1, 2),), (3,))], (("end", 0),)))
        self.assertFalse(tree_holds(ray, [Sheet((-5, -4), -20, ((-1, -1),), (3,))], (("end", 0),)))
        self.assertFalse(tree_holds(ray, [ray], (("end", -1),)))
        self.assertFalse(tree_holds(ray, [ray], (("end", 1),)))

    def test_large_numbers(self):
        """[9] Numbers of sixty and of 400 digits."""
        for big in (10 ** 60, 10 ** 399):
            sheet = Sheet((big, 0), big, ((big, 1), (1, big)), (big, -big))
            wide = Sheet((-big, 0), -big, ((1, 0), (0, 1)), (0, 0))
            self.assertTrue(tree_holds(sheet, [sheet], (("diagonal",), ("end", 0), ("end", 0))))
            self.assertFalse(tree_holds(sheet, [wide], (("end", 0),)))
            self.assertTrue(tree_holds(Sheet((big, 5), big, ((big, 1),), (big,)), [wide], (("end", 0),)))

    def test_deep(self):
        """[8] Thousands of nodes, one within another."""
        many = 6000
        for node in (("diagonal",), ("peel", 1), ("parts", 2)):
            tree = (node, ("end", 0)) * many + (("end", 0),)
            self.assertTrue(tree_holds(PLANE, [PLANE], tree), node)
            self.assertFalse(tree_holds(PLANE, [PLANE], tree[:-1]))
            self.assertFalse(tree_holds(PLANE, [PLANE], tree + (("end", 0),)))
        self.assertTrue(tree_holds(PLANE, [PLANE], (("turn",),) * many + (("end", 0),)))
        tree = (("diagonal",),) * many + (("end", 0),) * (many + 1)
        self.assertTrue(tree_holds(PLANE, [PLANE], tree))

    def test_against_words(self):
        """[7] to [9] Trees and changed trees are judged as the words of the document tell."""
        chance = random.Random(5)
        seen = {True: 0, False: 0}
        while min(seen.values()) < 300:
            sheet = random_sheet(chance, 2, 4, 4)
            sheets = [random_sheet(chance, 2, 4, 4) for _ in range(chance.randint(0, 3))]
            prices = [price + chance.randint(-2, 0) for price in sheet.prices]
            sheets.append(Sheet(sheet.base, sheet.price + chance.randint(0, 9), sheet.steps, prices))
            sheets.append(sheet.moved((0, 0), chance.randint(0, 1)))
            chance.shuffle(sheets)
            told = covered(sheet, sheets)
            tree = told.tree if isinstance(told, Cover) else (("end", 0),)
            for value in [tree] + list(changed_trees(chance, tree, 6)):
                right = slowly_holds(sheet, sheets, value)
                self.assertIs(tree_holds(sheet, sheets, value), right, (vars(sheet), value))
                seen[right] += 1


if __name__ == "__main__":
    unittest.main()

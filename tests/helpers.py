"""What several tests need: random sheets, and slow answers that are plain to see."""

import itertools
from fractions import Fraction

from alljourneys.errors import BadSheet
from alljourneys.sheets import Sheet


class Odd:
    """A value of no kind that is described; it even claims to equal everything."""

    def __eq__(self, other):
        return True

    __hash__ = None


# Values that are no names, places, trees and the like; none of them may make a program stumble.
ODD_VALUES = (None, True, False, 0, 1, -1, "", "end", (), ("end",), [], {}, [("end", 0)], 1.5, b"a", ((),), Odd(),
              (Odd(),), ((Odd(), 0),), (("end", True),), (("end", False),), (["end", 0],), (("end", 0), ("end", 0)))


def random_sheet(random, size=3, far=6, dear=8, steps=None):
    """A random sheet with steps up to the size, and other numbers up to far and dear."""
    while True:
        many = random.choice((0, 1, 2, 2, 2)) if steps is None else steps
        shifts = [(random.randint(-size, size), random.randint(-size, size)) for _ in range(many)]
        prices = [random.randint(-dear, dear) for _ in range(many)]
        try:
            return Sheet((random.randint(-far, far), random.randint(-far, far)), random.randint(-dear, dear),
                         shifts, prices)
        except BadSheet:
            pass


def some_cells(sheet, many):
    """The cells of the sheet with counts below many."""
    return [sheet.cell_of(counts) for counts in itertools.product(range(many), repeat=len(sheet.steps))]


def least(sheets, cell):
    """The least price of a cell by the sheets; None if none has it."""
    return min((sheet.price_at(cell) for sheet in sheets if cell in sheet), default=None)


def leaves(steps, tree):
    """The pieces of a tree, as (base, directions, end) in counts, read as the document tells; None if it is none."""
    nodes = list(tree)
    found = []

    def read(base, directions):
        node = nodes.pop(0)
        if node[0] == "peel":
            for k in range(node[1]):
                read(ahead(base, directions[0], k), directions[1:])
            read(ahead(base, directions[0], node[1]), directions)
        elif node[0] == "parts":
            wide = tuple(node[1] * number for number in directions[0])
            for k in range(node[1]):
                read(ahead(base, directions[0], k), [wide] + directions[1:])
        elif node[0] == "diagonal":
            first, second = directions
            both = ahead(first, second, 1)
            read(base, [first, both])
            read(ahead(base, second, 1), [both, second])
        elif node[0] == "turn":
            first, second = directions
            read(base, [second, first])
        else:
            found.append((base, directions, node))

    whole = [tuple(int(i == k) for i in range(steps)) for k in range(steps)]
    try:
        read((0,) * steps, whole)
    except (IndexError, ValueError):
        return None
    return None if nodes else found


def ahead(base, direction, times):
    return tuple(b + times * d for b, d in zip(base, direction))


def values(sheet, cell):
    """The counts, the offsets and the price of a cell by a sheet, as in the document: rational numbers."""
    x, y = cell[0] - sheet.base[0], cell[1] - sheet.base[1]
    if not sheet.steps:
        return [], [Fraction(x), Fraction(y)], Fraction(sheet.price)
    p, r = sheet.steps[0]
    if len(sheet.steps) == 1:
        counts = [Fraction(p * x + r * y, p * p + r * r)]
        offsets = [Fraction(p * y - r * x)]
    else:
        s, t = sheet.steps[1]
        counts = [Fraction(t * x - s * y, p * t - r * s), Fraction(p * y - r * x, p * t - r * s)]
        offsets = []
    return counts, offsets, sheet.price + sum(c * price for c, price in zip(counts, sheet.prices))


def on_piece(sheet, other, base, directions):
    """For a piece of a sheet: counts, offsets and price (less that by other), each as (at the base, the changes)."""
    start = sheet.cell_of(base)
    own = values(sheet, start)[2]
    first = values(other, start)
    told = []
    for direction in directions:
        cell = sheet.cell_of(ahead(base, direction, 1))
        there = values(other, cell)
        told.append(([b - a for a, b in zip(first[0], there[0])], [b - a for a, b in zip(first[1], there[1])],
                     (values(sheet, cell)[2] - there[2]) - (own - first[2])))
    counts = [(number, [change[0][k] for change in told]) for k, number in enumerate(first[0])]
    offsets = [(number, [change[1][k] for change in told]) for k, number in enumerate(first[1])]
    return counts, offsets, (own - first[2], [change[2] for change in told])


def stays_above(number, least):
    """Whether a number is at least so much at the base, and changed downwards by no direction."""
    return number[0] >= least and all(change >= 0 for change in number[1])


def has_piece(sheet, other, base, directions, strict=False):
    """Whether other has each cell of a piece for at most (or below) the price, by the words of the document."""
    counts, offsets, price = on_piece(sheet, other, base, directions)
    for number in counts:
        if not stays_above(number, 0) or any(part.denominator != 1 for part in [number[0]] + number[1]):
            return False
    if any(number[0] != 0 or any(number[1]) for number in offsets):
        return False
    return stays_above(price, 0) and (price[0] > 0 or not strict)


def deepened(tree, at, many):
    """A tree in the place of whose end with this index stand so many nodes, one within another, with the same end."""
    return tree[:at] + (("peel", 1), tree[at]) * many + tree[at:]


def changed_trees(random, tree, many):
    """Trees with one node changed, left out, doubled or added."""
    odd = [("end", 0), ("end", 1), ("peel", 1), ("peel", 0), ("peel", True), ("parts", 2), ("parts", 1), ("diagonal",),
           ("turn",), ("own",), ("in",), ("out", 0), ("end", -1), ("end", 10 ** 30), ("peel", 10 ** 30),
           ("parts", 10 ** 399), (), "end", ["end", 0], ("end", "0"), ("diagonal", 1), ("turn", None), None]
    for _ in range(many):
        at = random.randrange(len(tree) + 1)
        kind = random.randrange(3)
        if kind == 0:
            yield tree[:at] + (random.choice(odd),) + tree[at + 1:]
        elif kind == 1:
            yield tree[:at] + tree[at + 1:]
        else:
            yield tree[:at] + (random.choice(odd),) + tree[at:]

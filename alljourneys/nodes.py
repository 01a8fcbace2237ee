"""Nodes of trees: how they part a piece into pieces, and how a tree is read."""

from alljourneys.checks import is_integer


def _counted(node, word, least):
    """Whether the node is of the word and a number from least on."""
    return len(node) == 2 and node[0] == word and is_integer(node[1]) and node[1] >= least


def is_parting(piece, node):
    """Whether a value is a node that parts this piece into others."""
    if not isinstance(node, tuple) or not node or not isinstance(node[0], str):
        return False
    directions = piece[1]
    if _counted(node, "peel", 1) or _counted(node, "parts", 2):
        return len(directions) >= 1
    return len(directions) == 2 and len(node) == 1 and node[0] in ("diagonal", "turn")


def _ahead(base, direction, times):
    """The item that the direction, taken so many times, leads to from the base."""
    return (base[0] + times * direction[0], base[1] + times * direction[1], base[2] + times * direction[2])


def parted(piece, node):
    """The list of the pieces into which a node parts a piece, in the order in which they are read."""
    base, directions = piece
    first = directions[0]
    if node[0] == "diagonal":
        second = directions[1]
        both = _ahead(first, second, 1)
        return [(base, (first, both)), (_ahead(base, second, 1), (both, second))]
    if node[0] == "turn":
        return [(base, (directions[1], first))]
    many = node[1]
    bases = [_ahead(base, first, k) for k in range(many)]
    if node[0] == "peel":
        pieces = [(start, directions[1:]) for start in bases]
        pieces.append((_ahead(base, first, many), directions))
        return pieces
    wide = ((many * first[0], many * first[1], many * first[2]), *directions[1:])
    return [(start, wide) for start in bases]


def ends_of(piece, tree):
    """The ends of a tree over the piece: a list of tuples (piece, node); None if the value is no tree over it.

    What parts nothing is told as an end, whatever it is.
    """
    if not isinstance(tree, tuple):
        return None
    ends = []
    waiting = [piece]
    for at, node in enumerate(tree):
        if not waiting:
            return None
        here = waiting.pop()
        behind = len(tree) - at - 1
        if not is_parting(here, node):
            ends.append((here, node))
            continue
        # Each piece takes a node, so more pieces than nodes would never be read, and might be too many to make.
        if len(node) == 2 and node[1] > behind:
            return None
        waiting.extend(parted(here, node)[::-1])
        if len(waiting) > behind:
            return None
    return None if waiting else ends


def is_end(node, word, size):
    """Whether a value is a tuple of this size that begins with the word."""
    return isinstance(node, tuple) and len(node) == size and isinstance(node[0], str) and node[0] == word


def is_index(value, items):
    """Whether a value is an integer that is the index of one of the items."""
    return is_integer(value) and 0 <= value < len(items)


def trees_hold(pieces, trees, fits):
    """Whether a value is a tuple of one tree over each piece, such that fits(index, piece, node) for all ends."""
    if not isinstance(trees, tuple) or len(trees) != len(pieces):
        return False
    for index, piece in enumerate(pieces):
        ends = ends_of(piece, trees[index])
        if ends is None:
            return False
        for here, node in ends:
            if not fits(index, here, node):
                return False
    return True

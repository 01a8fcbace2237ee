"""Pieces as sheets."""

from alljourneys.sheets import Sheet


def sheet_of(piece):
    """The sheet that has just the cells of a piece, for their prices."""
    (x, y, price), directions = piece
    return Sheet((x, y), price, [(p, q) for p, q, _ in directions], [more for _, _, more in directions])

"""Matrices, and the lattices of cells that they make."""

from math import gcd


def matrix_of(rows):
    """The matrix of these two rows, as a tuple of tuples."""
    return tuple([tuple(row) for row in rows])


def determinant(matrix):
    """The determinant of a matrix."""
    (a, b), (c, d) = matrix
    return a * d - b * c


def applied(matrix, cell):
    """The cell that the matrix, applied to a cell, gives."""
    (a, b), (c, d) = matrix
    return (a * cell[0] + b * cell[1], c * cell[0] + d * cell[1])


def applied_back(matrix, cell):
    """The cell to which the matrix is applied to give this cell of its lattice."""
    (a, b), (c, d) = matrix
    size = determinant(matrix)
    return ((d * cell[0] - b * cell[1]) // size, (a * cell[1] - c * cell[0]) // size)


def product_of(one, other):
    """The matrix that, applied, does what other does, and then one."""
    (a, b), (c, d) = other
    columns = (applied(one, (a, c)), applied(one, (b, d)))
    return ((columns[0][0], columns[1][0]), (columns[0][1], columns[1][1]))


def _bezout(one, other):
    """Two integers by which the numbers, multiplied and added, give their greatest common divisor, or its negative."""
    first, second = (1, 0), (0, 1)
    while other != 0:
        times = one // other
        one, other = other, one - times * other
        first, second = second, (first[0] - times * second[0], first[1] - times * second[1])
    return first


class Lattice:
    """The cells that a matrix with a determinant other than 0 gives: all (i across + j slant, j up)."""

    def __init__(self, matrix):
        (a, b), (c, d) = matrix
        self.up = gcd(c, d)
        self.across = abs(determinant(matrix)) // self.up
        i, j = _bezout(c, d)
        side = 1 if c * i + d * j > 0 else -1
        self.slant = side * (a * i + b * j) % self.across

    def remainder(self, cell):
        """The remainder of a cell: what is left of it behind a cell of the lattice."""
        rows = cell[1] // self.up
        return ((cell[0] - rows * self.slant) % self.across, cell[1] - rows * self.up)

    def number_of(self, remainder):
        """The number of a remainder."""
        return remainder[1] * self.across + remainder[0]

    def remainders(self):
        """All remainders, by their numbers."""
        return tuple([(i, j) for j in range(self.up) for i in range(self.across)])


def spanned(shifts):
    """A matrix that gives just the cells that these shifts make, forth and back; they are not all on one line."""
    one, two = (0, 0), (0, 0)
    for shift in shifts:
        # The first one is kept at the lesser side of a step of Euclid's algorithm in the second number.
        three = shift
        while three[1] != 0:
            times = one[1] // three[1]
            one, three = three, (one[0] - times * three[0], one[1] - times * three[1])
        two = (gcd(two[0], three[0]), 0)
    return ((two[0], one[0]), (0, one[1]))

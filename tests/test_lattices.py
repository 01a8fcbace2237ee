import random
import unittest

from alljourneys.building import widened
from alljourneys.lattices import Lattice, applied, applied_back, determinant, product_of
from alljourneys.maps import Map
from alljourneys.matching import mismatch, widening


class LatticeTest(unittest.TestCase):
    """What [21] and [22] tell of matrices, lattices and remainders."""

    def test_random(self):
        chance = random.Random(22)
        for _ in range(400):
            matrix = tuple(tuple(chance.randint(-7, 7) for _ in range(2)) for _ in range(2))
            size = determinant(matrix)
            if size == 0:
                continue
            lattice = Lattice(matrix)
            p, q, s = lattice.across, lattice.slant, lattice.up
            self.assertTrue(p >= 1 and s >= 1 and 0 <= q < p and p * s == abs(size))
            for i, j in ((1, 0), (0, 1), (3, -2)):
                cell = (i * p + j * q, j * s)
                self.assertEqual(applied(matrix, applied_back(matrix, cell)), cell)
            cell = (chance.randint(-99, 99), chance.randint(-99, 99))
            left = lattice.remainder(cell)
            self.assertTrue(0 <= left[0] < p and 0 <= left[1] < s)
            step = (cell[0] - left[0], cell[1] - left[1])
            self.assertEqual(applied(matrix, applied_back(matrix, step)), step)
            self.assertEqual(lattice.number_of(left), left[1] * p + left[0])
            self.assertEqual(lattice.remainders()[lattice.number_of(left)], left)
            self.assertEqual(len(lattice.remainders()), p * s)
            other = tuple(tuple(chance.randint(-7, 7) for _ in range(2)) for _ in range(2))
            self.assertEqual(applied(product_of(other, matrix), cell), applied(other, applied(matrix, cell)))

    def test_wide_maps(self):
        """[22] [28] One spot in all cells of lattices with up to 24 remainders."""
        chance = random.Random(24)
        land = Map("spot a\nroad r a a 1 0 1\nroad s a a 0 -1 2\nroad t a a -1 2 3")
        done = 0
        while done < 60:
            matrix = tuple(tuple(chance.randint(-6, 6) for _ in range(2)) for _ in range(2))
            if not 1 <= abs(determinant(matrix)) <= 24:
                continue
            try:
                wide = widened(land, matrix)
            except ValueError:
                continue
            self.assertIsNone(mismatch(wide, land, widening(land, matrix)))
            done += 1


if __name__ == "__main__":
    unittest.main()

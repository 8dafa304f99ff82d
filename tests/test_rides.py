import random
import unittest
from fractions import Fraction

from flutterheld.rides import cell_moments, mark_moments, steady, told_back
from flutterheld.rows import mirrored
from tests.plain import fraction, some_row, some_telling, told

BOUNDS = (4, (1, 2), (1, 4), 1, 3, 2)


class TestRides(unittest.TestCase):
    """Promise 15."""

    def some(self):
        chance = random.Random(5)
        for many in range(30):
            row = some_row(chance, BOUNDS, many)
            yield row, some_telling(chance, BOUNDS, sum(row))

    def test_over_no_cells(self):
        telling = ((5, 2), ())
        self.assertEqual([cell_moments(telling), mark_moments(telling, ()), told_back(telling)],
                         [((5, 2),), ((5, 2),), ((-5, 2), ())])
        self.assertEqual(steady((-1, 3), (4, 1), 0), ((-1, 3), ()))

    def test_cell_moments(self):
        for _, (begin, ride) in self.some():
            plain = [fraction(begin) + sum(map(fraction, ride[:at])) for at in range(len(ride) + 1)]
            self.assertEqual(cell_moments((begin, ride)), tuple(map(told, plain)))

    def test_mark_moments(self):
        for row, (begin, ride) in self.some():
            plain = [fraction(begin) + sum(map(fraction, ride[:sum(row[:at])]), Fraction(0)) for at in range(len(row) + 1)]
            self.assertEqual(mark_moments((begin, ride), row), tuple(map(told, plain)))

    def test_mark_moments_of_a_gapped_row(self):
        self.assertEqual(mark_moments(steady((0, 1), (5, 2), 9), (2,) + (7,)), ((0, 1), (5, 1), (45, 2)))

    def test_told_back(self):
        for row, telling in self.some():
            back = told_back(telling)
            self.assertEqual(back[1], tuple(reversed(telling[1])))
            self.assertEqual(mark_moments(back, mirrored(row)), tuple((-n, d) for n, d in reversed(mark_moments(telling, row))))
            self.assertEqual(told_back(back), telling)

    def test_steady(self):
        self.assertEqual(steady((1, 2), (9, 2), 3), ((1, 2), ((9, 2), (9, 2), (9, 2))))
        self.assertEqual(cell_moments(steady((1, 2), (9, 2), 3))[-1], (14, 1))


if __name__ == "__main__":
    unittest.main()

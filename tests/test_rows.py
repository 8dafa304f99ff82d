import itertools
import random
import unittest

from flutterheld.rows import cells_of, distances_of, length_of, mirrored, rows_over
from tests.plain import RUNS


class TestRows(unittest.TestCase):
    """Promise 14."""

    def test_the_row_without_runs(self):
        self.assertEqual([cells_of(()), length_of(()), distances_of(()), mirrored(())], [(0,), 0, (), ()])

    def test_one_run(self):
        self.assertEqual([cells_of((5,)), length_of((5,)), distances_of((5,)), mirrored((5,))], [(0, 5), 5, (5,), (5,)])

    def test_rows_and_gapped_rows(self):
        chance = random.Random(4)
        for many in range(120):
            row = tuple(chance.randint(1, 16) for _ in range(many)) + (chance.randint(1, 100),)
            self.assertEqual(cells_of(row), tuple(sum(row[:at]) for at in range(len(row) + 1)))
            self.assertEqual(length_of(row), sum(row))
            self.assertEqual(distances_of(row), tuple(sum(row[-at:]) for at in range(1, len(row) + 1)))
            self.assertEqual(mirrored(row), tuple(reversed(row)))

    def test_rows_over_against_all_tuples(self):
        for lo, most in RUNS:
            for cells in range(10):
                bounds = (1, (0, 1), (0, 1), lo, most, 1)
                some = [row for many in range(cells + 1) for row in itertools.product(range(lo, most + 1), repeat=many) if sum(row) == cells]
                self.assertEqual(rows_over(bounds, cells), sorted(some), (lo, most, cells))

    def test_rows_over_the_most_cells(self):
        rows = rows_over((1, (0, 1), (0, 1), 1, 16, 8), 14)
        self.assertEqual([len(rows), rows[0], rows[-1], rows == sorted(set(rows))], [2 ** 13, (1,) * 14, (14,), True])

    def test_rows_over_none(self):
        self.assertEqual([rows_over((1, (0, 1), (0, 1), 3, 4, 1), cells) for cells in range(6)], [[()], [], [], [(3,)], [(4,)], []])

    def test_the_list_is_new(self):
        bounds = (1, (0, 1), (0, 1), 1, 2, 1)
        rows_over(bounds, 3).append(None)
        self.assertEqual([rows_over(bounds, 3), rows_over(bounds, 0)], [[(1, 1, 1), (1, 2), (2, 1)], [()]])
        self.assertIsNot(rows_over(bounds, 0), rows_over(bounds, 0))


if __name__ == "__main__":
    unittest.main()

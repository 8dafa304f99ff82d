import random
import unittest
from fractions import Fraction

from flutterheld.forms import lead_of
from flutterheld.harms import is_watchful, least_watchful_cell
from flutterheld.pull import pull
from flutterheld.rows import rows_over
from flutterheld.slips import heard_alike, slip_of
from flutterheld.sure import is_sure, least_cell
from tests.plain import are_heard_alike, can_be_kept, fraction, told

SMALL = [(1, drift, shift, lo, most, lead)
         for drift in ((0, 1), (1, 2), (3, 1)) for shift in ((0, 1), (1, 2), (4, 3))
         for lo, most, lead in ((1, 2, 1), (1, 2, 2), (2, 3, 1))]


class TestGuarantees(unittest.TestCase):
    """Promises 5 and 6, by 10: of all TELLINGS at once, in exact numbers, for a few cells behind the LEAD."""

    def rows(self, bounds, most):
        return [lead_of(bounds) + row for cells in range(most + 1) for row in rows_over(bounds, cells)]

    def test_the_method_itself(self):
        self.assertTrue(can_be_kept([([1, 0], 3), ([-1, 0], -3), ([-1, -1], -5)], 2))
        self.assertFalse(can_be_kept([([1, 0], 3), ([-1, 0], Fraction(-31, 10))], 2))
        self.assertFalse(can_be_kept([([1, 1], 4), ([-1, -1], -5)], 2))
        self.assertTrue(can_be_kept([([1, -1], 0), ([-1, 1], 0), ([-1, 0], -7)], 2))

    def test_with_sure_bounds_no_two_runs_are_heard_alike(self):
        for bounds in SMALL:
            given = (least_cell(*bounds[1:]),) + bounds[1:]
            self.assertTrue(is_sure(given))
            for row in self.rows(given, 2):
                self.assertFalse(are_heard_alike(given, row, given[3], given[4]), (given, row))

    def test_with_a_cell_less_they_are(self):
        shown = 0
        for bounds in SMALL:
            given = (least_cell(*bounds[1:]) - 1,) + bounds[1:]
            slip = slip_of(given) if given[0] > 0 else None
            if slip is not None and sum(slip[0]) < 8:
                self.assertTrue(are_heard_alike(given, slip[0], slip[1], slip[2]), given)
                shown += 1
        self.assertGreater(shown, 10)

    def test_with_watchful_bounds_no_gap_is_heard_as_a_run(self):
        for bounds in SMALL:
            cell = least_watchful_cell(*bounds[1:])
            if cell is not None:
                given = (cell,) + bounds[1:]
                self.assertTrue(is_watchful(given))
                for row in self.rows(given, 2):
                    for run, gap in ((2, 4), (3, 4), (3, 5)):
                        self.assertFalse(are_heard_alike(given, row, run, gap), (given, row, run, gap))

    def test_what_is_not_heard_alike_is_so_by_no_telling(self):
        chance = random.Random(14)
        none = 0
        for bounds in SMALL:
            run, gap = bounds[4], bounds[4] + chance.randint(1, 2)
            limit = (4 * fraction(bounds[2]) + run * fraction(pull(bounds)) + fraction(bounds[1]) * run * (run + 1)) / (gap - run)
            given = (int(limit) + 1,) + bounds[1:]
            self.assertIsNone(heard_alike(given, run, gap))
            for row in self.rows(given, 1):
                none += 1
                self.assertFalse(are_heard_alike(given, row, run, gap), (given, row, run, gap))
        self.assertGreater(none, 20)

    def test_fractions_between_the_cells(self):
        # The margin is just 0 there, with a cell that is an integer: still heard alike.
        given = (6, (0, 1), (1, 1), 1, 2, 1)
        self.assertTrue(are_heard_alike(given, (2,), 1, 2))
        self.assertFalse(are_heard_alike(given[:2] + (told(Fraction(999, 1000)),) + given[3:], (2,), 1, 2))


if __name__ == "__main__":
    unittest.main()

import random
import unittest
from fractions import Fraction

from flutterheld.errors import TooMany
from flutterheld.forms import is_led
from flutterheld.pull import phi, pull, pull_by_rows, pull_row, strain, turn
from tests.plain import bounds_of_all_sorts, fraction, some_row, told


def plain_phi(bounds, t):
    return 4 * fraction(bounds[2]) / t + fraction(bounds[1]) * (t - 1)


def turning_at(asked, most=2, lead=1):
    """BOUNDS with 4 * shift / drift as asked: the turn is the least t for which t * (t + 1) is at least that."""
    return (1, (1, 1), told(Fraction(asked, 4)), 1, most, lead)


class TestPull(unittest.TestCase):
    """Promise 17, and of 10: PULL by going through rows."""

    def test_phi(self):
        for bounds in bounds_of_all_sorts((1,)):
            for t in (1, 2, 3, 17, 10 ** 12):
                self.assertEqual(phi(bounds, t), told(plain_phi(bounds, t)))

    def test_strain(self):
        chance = random.Random(8)
        for bounds in bounds_of_all_sorts((1,)):
            row = some_row(chance, bounds, chance.randint(1, 9))
            plain = min(plain_phi(bounds, sum(row[at:])) for at in range(len(row)))
            self.assertEqual(strain(bounds, row), told(plain))

    def test_the_turn_by_steps(self):
        for bounds in bounds_of_all_sorts((1,)):
            plain = next((t for t in range(1, 200) if plain_phi(bounds, t) <= plain_phi(bounds, t + 1)), None)
            self.assertEqual(turn(bounds), plain, bounds)

    def test_where_phi_meets_itself(self):
        # PHI(t) is PHI(t + 1) itself: then t is the turn already.
        for t in (1, 2, 3, 10, 1000, 10 ** 9):
            self.assertEqual([turn(turning_at(t * (t + 1) - 1)), turn(turning_at(t * (t + 1))), turn(turning_at(t * (t + 1) + 1))],
                             [t, t, t + 1])

    def test_turns_at_the_limits(self):
        self.assertEqual([turn((1, (0, 1), (0, 1), 1, 2, 1)), turn((1, (5, 1), (0, 1), 1, 2, 1)), turn((1, (0, 1), (1, 999999999999), 1, 2, 1))],
                         [1, 1, None])
        far = (1, (1, 999999999999), (10 ** 6, 1), 1, 16, 8)
        t = turn(far)
        self.assertGreater(t, 10 ** 9)
        self.assertTrue(plain_phi(far, t - 1) > plain_phi(far, t) <= plain_phi(far, t + 1))

    def test_pull_is_that_of_the_rows(self):
        shown = 0
        for bounds in bounds_of_all_sorts((1, 2, 3)):
            least = turn(bounds)
            for cells in range(11):
                by_rows, drawn = fraction(pull_by_rows(bounds, cells)), fraction(pull(bounds))
                if least is None or cells >= least:
                    self.assertEqual(by_rows, drawn, (bounds, cells))
                    shown += 1
                    break
                self.assertLessEqual(by_rows, drawn, (bounds, cells))
        self.assertGreater(shown, 300)

    def test_pull_is_that_of_the_rows_with_some_cells_more(self):
        for bounds in bounds_of_all_sorts((1, 2))[::5]:
            if turn(bounds) is None or turn(bounds) <= 10:
                self.assertEqual(pull_by_rows(bounds, 11), pull(bounds), bounds)

    def test_runs_that_no_sum_comes_to(self):
        # 5 is no sum of RUNS from 3 to 4, so no mark can stand there.
        for asked in range(1, 110):
            for lo, most in ((3, 4), (4, 5), (2, 2), (5, 5), (3, 3)):
                bounds = (1, (1, 1), told(Fraction(asked, 4)), lo, most, 1 + asked % 2)
                self.assertEqual(pull_by_rows(bounds, turn(bounds)), pull(bounds), bounds)

    def test_pull_by_rows_of_none_is_the_lead(self):
        for bounds in bounds_of_all_sorts((1, 3)):
            self.assertEqual(pull_by_rows(bounds, 0), strain(bounds, (bounds[4],) * bounds[5]))

    def test_the_row_has_this_strain(self):
        for bounds in bounds_of_all_sorts((1, 2, 8)):
            row = pull_row(bounds)
            self.assertTrue(is_led(bounds, row))
            self.assertEqual(strain(bounds, row), pull(bounds), bounds)

    def test_wide_runs_and_long_leads(self):
        chance = random.Random(9)
        for _ in range(300):
            lo = chance.randint(1, 16)
            bounds = (1, told(Fraction(chance.randint(0, 9), chance.randint(1, 9))),
                      told(Fraction(chance.randint(0, 10 ** chance.randint(1, 5)), chance.randint(1, 99))),
                      lo, chance.randint(lo, 16), chance.randint(1, 8))
            if turn(bounds) is None or turn(bounds) <= 1000:
                row = pull_row(bounds)
                self.assertTrue(is_led(bounds, row))
                self.assertEqual(strain(bounds, row), pull(bounds), bounds)

    def test_a_turn_of_1000_is_not_too_many(self):
        for most, lead in ((2, 1), (3, 8), (16, 8)):
            last, beyond = turning_at(1000 * 1001, most, lead), turning_at(1000 * 1001 + 1, most, lead)
            self.assertEqual([turn(last), turn(beyond)], [1000, 1001])
            self.assertEqual(strain(last, pull_row(last)), pull(last))
            with self.assertRaises(TooMany) as caught:
                pull_row(beyond)
            self.assertEqual(caught.exception.most, 1000)
            # PULL itself is told all the same; it is that of the LEAD alone, far ahead of the turn.
            self.assertEqual(pull(beyond), told(plain_phi(beyond, most * lead)))

    def test_without_a_turn_nothing_is_too_many(self):
        bounds = (1, (0, 1), (10 ** 6, 1), 1, 16, 8)
        self.assertEqual([pull(bounds), pull_row(bounds)], [(31250, 1), (16,) * 8])

    def test_far_turns_are_told_at_once(self):
        for drift in ((1, 999999999999), (1, 10 ** 6), (3, 10 ** 11)):
            bounds = (1, drift, (10 ** 6, 1), 5, 7, 8)
            t, drawn = turn(bounds), fraction(pull(bounds))
            plain = max(min(plain_phi(bounds, u), plain_phi(bounds, u + 7)) for u in range(t - 6, t + 1))
            self.assertEqual(drawn, max(plain, plain_phi(bounds, 56)))


if __name__ == "__main__":
    unittest.main()

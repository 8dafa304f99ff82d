import random
import unittest
from fractions import Fraction

from flutterheld.pull import pull, pull_by_rows, turn
from flutterheld.sure import is_sure, least_cell, least_lead, margin
from tests.plain import bounds_of_all_sorts, fraction, told


def plain_margin(bounds, drawn):
    cell, drift, shift, lo, most, lead = bounds
    return cell - 4 * fraction(shift) - (most - 1) * fraction(drawn) - fraction(drift) * most * (most - 1)


class TestSure(unittest.TestCase):
    """Promise 18."""

    def test_margin(self):
        for bounds in bounds_of_all_sorts((1, 2)):
            for cell in (1, 20, 10 ** 6):
                given = (cell,) + bounds[1:]
                self.assertEqual(margin(given), told(plain_margin(given, pull(given))))

    def test_margin_by_going_through_rows(self):
        for bounds in bounds_of_all_sorts((1,)):
            least = turn(bounds)
            if least is None or least <= 6:
                self.assertEqual(fraction(margin(bounds)), plain_margin(bounds, pull_by_rows(bounds, least or 0)))

    def test_sure_just_if_the_margin_is_above_none(self):
        for bounds in bounds_of_all_sorts((1, 2)):
            for cell in (1, 3, 10, 40):
                given = (cell,) + bounds[1:]
                self.assertIs(is_sure(given), bounds[3] == bounds[4] or margin(given)[0] > 0)

    def test_a_margin_of_none_is_not_sure(self):
        plain = (6, (0, 1), (1, 1), 1, 2, 1)
        self.assertEqual([margin(plain), is_sure(plain), is_sure((7,) + plain[1:])], [(0, 1), False, True])

    def test_one_run_alone_is_sure(self):
        self.assertTrue(is_sure((1, (10 ** 6, 1), (10 ** 6, 1), 16, 16, 1)))
        self.assertEqual([least_cell((10 ** 6, 1), (10 ** 6, 1), 16, 16, 1), least_lead(1, (9, 1), (9, 1), 2, 2)], [1, 1])

    def test_least_cell(self):
        for bounds in bounds_of_all_sorts((1, 2, 8)):
            cell = least_cell(*bounds[1:])
            self.assertIs(type(cell), int)
            self.assertGreaterEqual(cell, 1)
            self.assertTrue(is_sure((cell,) + bounds[1:]), bounds)
            self.assertTrue(is_sure((cell + 7,) + bounds[1:]))
            if cell > 1:
                self.assertFalse(is_sure((cell - 1,) + bounds[1:]), bounds)

    def test_least_cell_without_drift_and_shift(self):
        self.assertEqual(least_cell((0, 1), (0, 1), 1, 16, 1), 1)

    def test_least_lead_by_trying(self):
        none = 0
        for bounds in bounds_of_all_sorts((1,)):
            for cell in (1, 4, 9, 15, 30, 100):
                given = (cell,) + bounds[1:5]
                plain = next((lead for lead in range(1, 40) if is_sure(given + (lead,))), None)
                self.assertEqual(least_lead(*given), plain, given)
                none += plain is None
        self.assertGreater(none, 20)

    def test_least_lead_with_turns_in_between(self):
        # Here a lead helps up to the turn, so leads of all lengths come out.
        found = set()
        for cell in range(4004, 4400, 3):
            given = (cell, (1, 1000), (1000, 1), 1, 2)
            lead = least_lead(*given)
            found.add(lead)
            if lead is not None:
                self.assertTrue(is_sure(given + (lead,)))
                self.assertTrue(lead == 1 or not is_sure(given + (lead - 1,)))
            else:
                self.assertFalse(is_sure(given + (10 ** 9,)))
        self.assertGreater(len(found), 15)
        self.assertIn(None, found)

    def test_least_lead_without_a_turn_is_far(self):
        shift = (10 ** 12 - 2, 10 ** 6 * 4)
        given = (10 ** 6, (0, 1), told(Fraction(*shift)), 1, 2)
        lead = least_lead(*given)
        self.assertGreater(lead, 10 ** 10)
        self.assertEqual([is_sure(given + (lead,)), is_sure(given + (lead - 1,)), is_sure(given + (lead + 1,))], [True, False, True])

    def test_least_lead_at_a_far_turn(self):
        drift, shift = (1, 999999999999), (10 ** 5, 1)
        for cell in (400001, 400002, 400010, 500000):
            lead = least_lead(cell, drift, shift, 1, 3)
            self.assertEqual([is_sure((cell, drift, shift, 1, 3, lead)), is_sure((cell, drift, shift, 1, 3, lead - 1))], [True, False])
        self.assertGreater(least_lead(400001, drift, shift, 1, 3), 10 ** 5)
        self.assertEqual(least_lead(400000, drift, shift, 1, 3), None)

    def test_no_lead_is_enough_at_the_limit_itself(self):
        # The pull never comes down to 0, so a cell of 4 * shift never does.
        self.assertEqual([least_lead(cell, (0, 1), (1, 1), 1, 2) for cell in (3, 4, 5)], [None, None, 3])

    def test_a_longer_lead_makes_it_never_worse(self):
        chance = random.Random(10)
        for bounds in chance.sample(bounds_of_all_sorts((1,)), 60):
            pulls = [fraction(pull(bounds[:5] + (lead,))) for lead in range(1, 12)]
            self.assertEqual(pulls, sorted(pulls, reverse=True))


if __name__ == "__main__":
    unittest.main()

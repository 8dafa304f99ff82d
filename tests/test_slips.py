import random
import unittest
from fractions import Fraction

from flutterheld.errors import TooMany
from flutterheld.forms import is_hearing, is_led, is_telling
from flutterheld.hearings import gives
from flutterheld.pull import pull, turn
from flutterheld.slips import heard_alike, is_slip, slip_of
from flutterheld.sure import is_sure, least_cell
from tests.plain import bounds_of_all_sorts, fraction, nearly, told

PLAIN = (6, (0, 1), (1, 1), 1, 2, 1)
SLIP = ((2,), 1, 2, ((0, 1), ((8, 1), (8, 1), (8, 1))), ((2, 1), ((6, 1),) * 4), ((1, 1), (15, 1), (25, 1)))


def plain_is_slip(bounds, thing):
    """As DOC.md tells it, part by part."""
    if type(thing) is not tuple or len(thing) != 6:
        return False
    row, run, other_run, telling, other, hearing = thing
    if not is_led(bounds, row) or not is_hearing(hearing) or run == other_run:
        return False
    for runs, given in ((run, telling), (other_run, other)):
        if type(runs) is not int or not bounds[3] <= runs <= bounds[4] or not is_telling(bounds, given):
            return False
        marks = [sum(row[:at]) for at in range(len(row) + 1)] + [sum(row) + runs]
        if len(given[1]) != marks[-1] or len(hearing) != len(marks):
            return False
        moments = [fraction(given[0]) + sum(map(fraction, given[1][:mark])) for mark in marks]
        if any(abs(moment - fraction(heard)) > fraction(bounds[2]) for moment, heard in zip(moments, hearing)):
            return False
    return True


class TestSlips(unittest.TestCase):
    """Promise 19, of 5: SURE just if there is no SLIP."""

    def check_slip(self, bounds):
        """None just if they are SURE; else a SLIP, which is_slip and gives take."""
        slip = slip_of(bounds)
        self.assertIs(slip is None, is_sure(bounds), bounds)
        if slip is None:
            return
        self.assertIs(is_slip(bounds, slip), True, bounds)
        self.assertTrue(plain_is_slip(bounds, slip), bounds)
        row, run, other_run, telling, other, hearing = slip
        self.assertTrue(gives(bounds, row + (run,), telling, hearing))
        self.assertTrue(gives(bounds, row + (other_run,), other, hearing))

    def check_about(self, bounds):
        """The least cell that is good, one less, and, if it can be, far less."""
        cell = least_cell(*bounds[1:])
        for less in (0, 1, cell // 2, cell - 1):
            if less < cell:
                self.check_slip((cell - less,) + bounds[1:])

    def test_all_sorts(self):
        for bounds in bounds_of_all_sorts((1, 3)):
            self.check_about(bounds)

    def test_drift_or_shift_or_both_are_none(self):
        for drift, shift in (((0, 1), (0, 1)), ((0, 1), (7, 3)), ((7, 3), (0, 1))):
            for lo, most in ((1, 1), (1, 2), (1, 16), (15, 16), (9, 16), (16, 16)):
                for lead in (1, 2, 8):
                    self.check_about((1, drift, shift, lo, most, lead))

    def test_wide_runs_and_long_leads(self):
        chance = random.Random(11)
        for _ in range(60):
            lo = chance.randint(1, 16)
            self.check_about((1, told(Fraction(chance.randint(1, 9), chance.randint(1, 9))),
                              told(Fraction(chance.randint(1, 10 ** chance.randint(1, 3)), chance.randint(1, 99))),
                              lo, chance.randint(lo, 16), chance.randint(1, 8)))

    def test_turns_up_to_1000(self):
        for asked, lo, most, lead in ((1000 * 1001, 1, 2, 1), (1000 * 1001, 7, 16, 8), (999 * 1000 + 1, 5, 7, 3), (300 * 301, 2, 3, 8)):
            bounds = (1, (1, 1), told(Fraction(asked, 4)), lo, most, lead)
            self.assertIn(turn(bounds), (1000, 300))
            self.check_about(bounds)

    def test_numbers_at_the_limits(self):
        chance = random.Random(12)
        for _ in range(12):
            drift, shift = (chance.randint(10 ** 11, 10 ** 12 - 1) for _ in range(2))
            bounds = (1, told(Fraction(drift, 10 ** 12 - 1 - chance.randint(1, 10 ** 6))),
                      told(Fraction(shift, 10 ** 12 - 1 - chance.randint(1, 10 ** 6))), 2, chance.randint(3, 16), chance.randint(1, 8))
            self.check_about(bounds)
        self.check_about((1, (10 ** 6, 1), (10 ** 6, 1), 1, 16, 8))
        self.check_about((1, (999999999989, 10 ** 6), (10 ** 6, 1), 1, 16, 1))

    def test_a_turn_above_1000_is_too_many(self):
        bounds = (1, (1, 1), told(Fraction(1000 * 1001 + 1, 4)), 1, 2, 1)
        for way in (lambda: slip_of(bounds), lambda: heard_alike(bounds, 1, 2), lambda: heard_alike(bounds, 2, 3)):
            with self.assertRaises(TooMany) as caught:
                way()
            self.assertEqual(caught.exception.most, 1000)

    def test_where_there_is_none_a_far_turn_is_not_asked(self):
        bounds = (10 ** 9, (1, 1), told(Fraction(1000 * 1001 + 1, 4)), 1, 2, 1)
        self.assertEqual([slip_of(bounds), heard_alike(bounds, 1, 2), heard_alike(bounds, 2, 9)], [None, None, None])

    def test_a_far_lead_without_a_slip(self):
        self.assertIsNone(slip_of((10, (0, 1), (1, 1), 1, 2, 10 ** 12)))

    def test_equal_bounds_give_equal_slips(self):
        self.assertEqual(slip_of(PLAIN), slip_of(tuple(list(PLAIN))))


class TestHeardAlike(unittest.TestCase):
    """Promise 19: what is heard alike, a run and a gap."""

    def check_alike(self, bounds, run, gap):
        cell, drift, shift = bounds[0], fraction(bounds[1]), fraction(bounds[2])
        there_are = (gap - run) * cell - 4 * shift <= run * fraction(pull(bounds)) + drift * run * (run + 1)
        alike = heard_alike(bounds, run, gap)
        self.assertIs(alike is not None, there_are, (bounds, run, gap))
        if alike is not None:
            row, telling, other, hearing = alike
            self.assertTrue(is_led(bounds, row) and is_hearing(hearing))
            self.assertTrue(is_telling(bounds, telling) and is_telling(bounds, other), (bounds, run, gap))
            self.assertTrue(gives(bounds, row + (run,), telling, hearing), (bounds, run, gap))
            self.assertTrue(gives(bounds, row + (gap,), other, hearing), (bounds, run, gap))
        return there_are

    def test_runs_and_gaps_of_all_sorts(self):
        found = []
        for bounds in bounds_of_all_sorts((1, 2))[::3]:
            for cell in (1, 5, 20):
                for run in (bounds[4] - 1, bounds[4]):
                    if run >= 1:
                        found += [self.check_alike((cell,) + bounds[1:], run, gap) for gap in (run + 1, run + 2, 2 * run + 3)]
        self.assertEqual(set(found), {True, False})

    def test_just_at_the_limit(self):
        # 4 * shift + run * PULL + drift * run * (run + 1) of these: the cell is that by the cells that the gap is longer.
        for bounds, run, gap, cell in (((1, (1, 1), (3, 1), 1, 3, 1), 3, 4, None), ((1, (1, 2), (3, 2), 2, 3, 2), 2, 3, None),
                                       ((1, (2, 1), (0, 1), 2, 4, 2), 4, 6, None)):
            limit = 4 * fraction(bounds[2]) + run * fraction(pull(bounds)) + fraction(bounds[1]) * run * (run + 1)
            cell = int(limit / (gap - run))
            self.assertTrue(self.check_alike((cell,) + bounds[1:], run, gap))
            self.assertFalse(self.check_alike((cell + 1,) + bounds[1:], run, gap))

    def test_the_limit_itself_is_heard_alike(self):
        # 6 - 4 is 1 * PULL, so nothing is left over.
        self.assertTrue(self.check_alike(PLAIN, 1, 2))
        self.assertFalse(self.check_alike((7,) + PLAIN[1:], 1, 2))

    def test_a_gap_within_the_shift(self):
        # The gap lasts no longer than twice the shift: both may be told just alike.
        for drift in ((0, 1), (1, 3), (5, 1)):
            self.assertTrue(self.check_alike((1, drift, (9, 1), 2, 3, 2), 3, 20))
            self.assertTrue(self.check_alike((1, drift, (9, 1), 2, 3, 2), 2, 20))

    def test_a_gap_just_beyond_the_shift(self):
        # All but 1, or less, of what the gap lasts longer is within twice the shift.
        for shift, cell in (((1, 2), 2), ((5, 6), 2), ((99, 200), 1)):
            for drift in ((0, 1), (1, 3)):
                self.assertTrue(self.check_alike((cell, drift, shift, 1, 2, 1), 1, 2))
                self.assertTrue(self.check_alike((cell, drift, shift, 1, 2, 1), 2, 3))

    def test_a_run_that_is_none(self):
        # K - 1 may be asked, though it is below lo.
        self.assertTrue(self.check_alike((1, (1, 1), (1, 1), 3, 3, 1), 2, 3))

    def test_neither_drift_nor_shift(self):
        for run, gap in ((2, 3), (3, 4), (3, 30)):
            self.assertFalse(self.check_alike((1, (0, 1), (0, 1), 1, 3, 1), run, gap))


class TestIsSlip(unittest.TestCase):
    """Promise 19: is_slip of any value."""

    def test_the_one_of_the_document(self):
        self.assertTrue(is_slip(PLAIN, SLIP))
        self.assertFalse(is_slip((7,) + PLAIN[1:], SLIP))

    def test_nearly_slips(self):
        found = []
        for bounds, slip in ((PLAIN, SLIP), (PLAIN, slip_of(PLAIN)), ((2, (1, 1), (1, 2), 1, 2, 2), slip_of((2, (1, 1), (1, 2), 1, 2, 2)))):
            for thing in nearly(slip):
                told_so = is_slip(bounds, thing)
                self.assertIs(told_so, plain_is_slip(bounds, thing), thing)
                found.append(told_so)
        self.assertEqual(set(found), {True, False})

    def test_what_is_none(self):
        row, run, other_run, telling, other, hearing = SLIP
        some = ((row, other_run, run, other, telling, hearing), (row, run, run, telling, telling, hearing),
                ((1,), run, other_run, telling, other, hearing), (row, True, other_run, telling, other, hearing),
                (row, run, 3, telling, other, hearing), (row, run, other_run, other, telling, hearing),
                (row, run, other_run, telling, other, hearing[:2]), (row, run, other_run, telling, other, hearing[::-1]),
                (row, run, other_run, telling, (other[0], ((5, 1),) * 4), hearing), list(SLIP), SLIP[:5], ())
        self.assertEqual([is_slip(PLAIN, thing) for thing in some], [True] + [False] * (len(some) - 1))


if __name__ == "__main__":
    unittest.main()

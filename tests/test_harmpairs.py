import unittest
from fractions import Fraction

from flutterheld.errors import TooMany
from flutterheld.forms import is_hearing, is_led, is_row, is_run, is_telling
from flutterheld.harmpairs import blind_of, is_blind, worst_of
from flutterheld.harms import gap_margin, is_watchful, least_watchful_cell
from flutterheld.hearings import gives
from flutterheld.sure import is_sure
from tests.plain import bounds_of_all_sorts, does_fit, fraction, nearly, told

PLAIN = (9, (0, 1), (0, 1), 1, 2, 1)
ONE = ((0, 1), ((9, 1),) * 4)
BLIND = ((2,), 2, (1, 1), ONE, ONE, ((0, 1), (18, 1), (36, 1)))
BOUNDS = (21, (1, 2), (3, 2), 2, 3, 2)


def plain_is_blind(bounds, thing):
    """As DOC.md tells it, part by part."""
    if type(thing) is not tuple or len(thing) != 6:
        return False
    row, run, runs, telling, other, hearing = thing
    if not is_led(bounds, row) or not is_run(bounds, run) or not is_hearing(hearing):
        return False
    if type(runs) is not tuple or len(runs) < 2 or not all(is_run(bounds, part) for part in runs):
        return False
    for last, given in ((run, telling), (sum(runs), other)):
        if not is_telling(bounds, given):
            return False
        marks = [sum(row[:at]) for at in range(len(row) + 1)] + [sum(row) + last]
        if len(given[1]) != marks[-1] or len(hearing) != len(marks):
            return False
        moments = [fraction(given[0]) + sum(map(fraction, given[1][:mark])) for mark in marks]
        if any(abs(moment - fraction(heard)) > fraction(bounds[2]) for moment, heard in zip(moments, hearing)):
            return False
    return True


class TestBlinds(unittest.TestCase):
    """Promise 21, of 6: what is not noticed."""

    def check_blind(self, bounds):
        """None just if 2 * lo is above K, and the gap_margin above 0; else a BLIND that is_blind and gives take."""
        blind = blind_of(bounds)
        self.assertIs(blind is None, 2 * bounds[3] > bounds[4] and gap_margin(bounds)[0] > 0, bounds)
        if blind is None:
            return "none"
        self.assertIs(is_blind(bounds, blind), True, bounds)
        self.assertTrue(plain_is_blind(bounds, blind), bounds)
        row, run, runs, telling, other, hearing = blind
        self.assertTrue(is_led(bounds, row) and is_row(bounds, runs))
        self.assertTrue(gives(bounds, row + (run,), telling, hearing))
        self.assertTrue(gives(bounds, row + (sum(runs),), other, hearing))
        lo, most = bounds[3:5]
        self.assertEqual((run, runs), (2 * lo if 2 * lo <= most else most, (lo, lo)))
        return "one telling" if telling == other else "two"

    def test_all_sorts(self):
        found = []
        for bounds in bounds_of_all_sorts((1, 3)):
            for cell in (1, 6, 30, 200):
                found.append(self.check_blind((cell,) + bounds[1:]))
        self.assertEqual(set(found), {"none", "one telling", "two"})

    def test_about_the_least_watchful_cell(self):
        shown = 0
        for bounds in bounds_of_all_sorts((1, 2)):
            cell = least_watchful_cell(*bounds[1:])
            if cell is None:
                continue
            self.assertIsNone(blind_of((cell,) + bounds[1:]))
            if cell > 1 and is_sure((cell - 1,) + bounds[1:]):
                shown += 1
                self.assertNotEqual(self.check_blind((cell - 1,) + bounds[1:]), "none")
        self.assertGreater(shown, 50)

    def test_a_gap_margin_of_none_has_a_blind(self):
        bounds = (8, (0, 1), (1, 1), 2, 3, 1)
        self.assertEqual([gap_margin(bounds), self.check_blind(bounds), blind_of((9,) + bounds[1:])], [(0, 1), "two", None])

    def test_bounds_that_are_not_sure(self):
        # The gap is noticed where RUNS are not told apart: nothing is asked but the gap.
        bounds = (2, (0, 1), (1, 1), 15, 16, 1)
        self.assertEqual([is_sure(bounds), blind_of(bounds), worst_of(bounds)], [False, None, "unsure"])
        self.assertEqual([is_sure((1,) + BOUNDS[1:]), self.check_blind((1,) + BOUNDS[1:])], [False, "two"])

    def test_the_two_rows_do_fit_by_all_tellings(self):
        for bounds in ((2, (1, 2), (1, 2), 1, 2, 1), (3, (1, 1), (1, 2), 2, 3, 1)):
            row, run, runs, _, _, hearing = blind_of(bounds)
            self.assertTrue(does_fit(bounds, row + (run,), hearing) and does_fit(bounds, row + (sum(runs),), hearing))

    def test_a_turn_above_1000_is_too_many(self):
        bounds = (1, (1, 1), told(Fraction(1000 * 1001 + 1, 4)), 2, 3, 1)
        with self.assertRaises(TooMany) as caught:
            blind_of(bounds)
        self.assertEqual(caught.exception.most, 1000)

    def test_where_it_is_not_needed_the_turn_is_not_asked(self):
        far = ((1, 1), told(Fraction(1000 * 1001 + 1, 4)))
        self.assertEqual(self.check_blind((1,) + far + (1, 2, 1)), "one telling")
        self.assertIsNone(blind_of((10 ** 9,) + far + (2, 3, 1)))


class TestIsBlind(unittest.TestCase):
    """Promise 21: is_blind of any value."""

    def test_nearly_blinds(self):
        found = []
        for bounds, blind in ((PLAIN, BLIND), (PLAIN, blind_of(PLAIN)), (BOUNDS, blind_of(BOUNDS))):
            # All of the longest one would be many: only its first parts are changed.
            things = nearly(blind) if bounds == PLAIN else (other + blind[3:] for other in nearly(blind[:3]) if type(other) is tuple)
            for thing in things:
                told_so = is_blind(bounds, thing)
                self.assertIs(told_so, plain_is_blind(bounds, thing), thing)
                found.append(told_so)
        self.assertEqual(set(found), {True, False})

    def test_what_is_none(self):
        row, run, runs, telling, other, hearing = BLIND
        short = ((0, 1), ((9, 1),) * 3)
        some = ((row, 1, (1,), short, short, ((0, 1), (18, 1), (27, 1))), (row, run, (2,), telling, other, hearing),
                (row, run, (), telling, other, hearing), (row, run, [1, 1], telling, other, hearing), (row, run, 2, telling, other, hearing),
                (row, run, (True, 1), telling, other, hearing), (row, run, (0, 2), telling, other, hearing),
                (row, run, (1, 1, 1), telling, other, hearing), ((1,), run, runs, telling, other, hearing), ((), run, runs, telling, other, hearing),
                (row, run, runs, telling, other, hearing[:2]), (row, run, runs, telling, other, hearing[::-1]), list(BLIND), BLIND[:5], ())
        self.assertEqual([is_blind(PLAIN, thing) for thing in some], [False] * len(some))

    def test_runs_may_be_more_than_two(self):
        bounds = (1, (0, 1), (9, 1), 1, 3, 1)
        telling, other = ((0, 1), ((1, 1),) * 4), ((0, 1), ((1, 1),) * 6)
        self.assertTrue(is_blind(bounds, ((3,), 1, (1, 1, 1), telling, other, ((0, 1), (3, 1), (5, 1)))))
        self.assertFalse(is_blind(bounds, ((3,), 1, (1, 1, 2), telling, other, ((0, 1), (3, 1), (5, 1)))))


class TestWorst(unittest.TestCase):
    """Promise 21: one word for BOUNDS."""

    def test_just_by_two(self):
        found = set()
        for bounds in bounds_of_all_sorts((1, 2)):
            for cell in (1, 5, 20, 80):
                given = (cell,) + bounds[1:]
                plain = "watchful" if is_watchful(given) else "sure" if is_sure(given) else "unsure"
                self.assertEqual(worst_of(given), plain, given)
                found.add(plain)
        self.assertEqual(found, {"watchful", "sure", "unsure"})


if __name__ == "__main__":
    unittest.main()

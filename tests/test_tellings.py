import random
import unittest
from fractions import Fraction

from flutterheld.hearings import gives, hearing_of
from flutterheld.polygons import begun, has_point
from flutterheld.rides import cell_moments
from flutterheld.tellings import do_fit, polygons_of, telling_for
from tests.plain import (bounds_of_all_sorts, can_end_so, does_fit, fraction, greatest_shifts, heard_by_chance, some_row,
                         some_shifts, some_telling, swayed, told)

BOUNDS = (4, (1, 2), (1, 4), 1, 2, 1)
HEARD = ((1, 1), (39, 4), (55, 4), (47, 2))
# A shift that is longer than RUNS last: marks come out of order.
SHIFTY = (1, (1, 2), (7, 2), 1, 2, 1)


def some_of(chance, many, most_runs, cells=(1, 2, 5)):
    """BOUNDS and rows for them, some of them with a gap behind."""
    for _ in range(many):
        bounds = (chance.choice(cells),) + chance.choice(bounds_of_all_sorts((1,)))[1:]
        row = some_row(chance, bounds, chance.randint(0, most_runs))
        yield bounds, row + ((chance.randint(1, 9),) if chance.random() < 0.3 else ())


class TestFit(unittest.TestCase):
    """Promise 23, of 7: what FITS."""

    def check_fit(self, bounds, row, hearing):
        telling = telling_for(bounds, row, hearing)
        self.assertIs(do_fit(bounds, row, hearing), telling is not None, (bounds, row, hearing))
        if telling is not None:
            self.assertTrue(gives(bounds, row, telling, hearing), (bounds, row, hearing))
        return telling is not None

    def test_by_all_tellings_at_once(self):
        chance = random.Random(30)
        found = []
        for bounds, row in some_of(chance, 400, 4):
            if sum(row) <= 9:
                hearing = heard_by_chance(chance, bounds, row)
                plain = does_fit(bounds, row, hearing)
                self.assertIs(self.check_fit(bounds, row, hearing), plain, (bounds, row, hearing))
                found.append(plain)
        self.assertGreater(min(found.count(True), found.count(False)), 40)

    def test_just_at_the_limit(self):
        # Two cells of 4 at least: the mark is heard at 8 - 1 / 2 behind the first one, or later.
        for by, plain in ((Fraction(15, 2), True), (Fraction(15, 2) - Fraction(1, 10 ** 30), False)):
            self.assertIs(self.check_fit(BOUNDS, (2,), ((0, 1), told(by))), plain)
        # -1 / 4, 15 / 4, 33 / 4: so the third cell lasts 5 at most, and its mark is heard at 27 / 2 at most.
        still = ((0, 1), (4, 1), (8, 1))
        for by, plain in ((Fraction(27, 2), True), (Fraction(27, 2) + Fraction(1, 10 ** 30), False)):
            self.assertIs(self.check_fit(BOUNDS, (1, 1, 1), still + (told(by),)), plain)
            self.assertIs(does_fit(BOUNDS, (1, 1, 1), still + (told(by),)), plain)

    def test_whatever_ride_and_shifts(self):
        chance = random.Random(31)
        for bounds, row in some_of(chance, 300, 9, (1, 4)):
            telling = some_telling(chance, bounds, sum(row))
            self.assertTrue(self.check_fit(bounds, row, hearing_of(telling, row, some_shifts(chance, bounds, len(row) + 1))))

    def test_swaying_rides_and_the_greatest_shifts(self):
        for bounds in bounds_of_all_sorts((1,))[::5]:
            row = (bounds[4], bounds[3], bounds[3]) * 4
            for high, by, first in ((0, 0, 1), (1, 0, 1), (3, 2, -1), (9, 5, 1)):
                telling = ((-7, 3), swayed(bounds, sum(row), high, by))
                self.assertTrue(self.check_fit(bounds, row, hearing_of(telling, row, greatest_shifts(bounds, len(row) + 1, first))))

    def test_marks_out_of_order(self):
        chance = random.Random(32)
        out = 0
        for _ in range(60):
            row = some_row(chance, SHIFTY, chance.randint(1, 6))
            telling = some_telling(chance, SHIFTY, sum(row))
            shifts = some_shifts(chance, SHIFTY, len(row) + 1)
            moments = cell_moments(telling)
            heard = [fraction(moments[sum(row[:at])]) + fraction(shift) for at, shift in enumerate(shifts)]
            out += heard != sorted(heard)
            self.assertTrue(self.check_fit(SHIFTY, row, hearing_of(telling, row, shifts)))
        self.assertGreater(out, 15)

    def test_the_row_without_runs(self):
        self.assertEqual(telling_for(BOUNDS, (), ((-7, 3),)), ((-7, 3), ()))
        self.assertEqual([do_fit(BOUNDS, (), ((-7, 3),)), do_fit(BOUNDS, (), ()), do_fit(BOUNDS, (), HEARD[:2])], [True, False, False])
        self.assertEqual([telling_for(BOUNDS, (), ()), telling_for(BOUNDS, (), HEARD[:2])], [None, None])

    def test_another_number_of_items(self):
        for row in ((2,), (2, 1), (2, 1, 2, 1), (2, 1, 2, 1, 1)):
            self.assertEqual([telling_for(BOUNDS, row, HEARD), do_fit(BOUNDS, row, HEARD)], [None, False])

    def test_a_gap_behind_a_row(self):
        bounds = (4, (1, 2), (1, 4), 1, 2, 1)
        for gap in (1, 3, 7, 40):
            hearing = ((0, 1), (8, 1), told(8 + 4 * gap))
            self.assertTrue(self.check_fit(bounds, (2, gap), hearing))
            self.assertFalse(self.check_fit(bounds, (2, gap + 1), hearing))

    def test_a_far_gap_is_no_trouble_where_it_cannot_be(self):
        row, hearing = (2, 10 ** 12), ((0, 1), (8, 1), (100, 1))
        self.assertEqual([do_fit(BOUNDS, row, hearing), telling_for(BOUNDS, row, hearing)], [False, None])

    def test_equal_arguments_give_equal_tellings(self):
        self.assertEqual(telling_for(BOUNDS, (2, 1, 2), HEARD), telling_for(BOUNDS, (2, 1, 2), tuple(list(HEARD))))

    def test_numbers_of_all_lengths(self):
        bounds = (10 ** 6, (999999999989, 10 ** 6), (999999999961, 10 ** 12 - 11), 1, 16, 1)
        row = (16, 1, 3, 9, 2)
        telling = ((-1, 999999999999), swayed(bounds, sum(row), 9, 4))
        self.assertTrue(self.check_fit(bounds, row, hearing_of(telling, row, greatest_shifts(bounds, 6))))


class TestPolygonsOf(unittest.TestCase):
    """Promise 23: all that may be at the end of each cell."""

    def test_none_and_new(self):
        self.assertEqual([polygons_of(BOUNDS, (), ((1, 1),)), polygons_of(BOUNDS, (), ((1, 1),))], [[], []])
        for row, hearing in (((), ((1, 1),)), ((2, 1, 2), HEARD)):
            one = polygons_of(BOUNDS, row, hearing)
            self.assertIs(type(one), list)
            one.append(None)
            self.assertEqual(len(polygons_of(BOUNDS, row, hearing)), sum(row))

    def test_the_first_runs_cells(self):
        first = polygons_of(BOUNDS, (2, 1, 2), HEARD)[0]
        self.assertEqual(first, begun(BOUNDS, (3, 4), (5, 4), told(Fraction(39, 4) - 1 + Fraction(1, 2))))
        self.assertEqual(polygons_of(BOUNDS, (3,), ((0, 1), (2, 1))), [()] * 3)

    def test_one_for_each_cell_also_where_nothing_is_left(self):
        polygons = polygons_of(BOUNDS, (1, 1, 2), HEARD)
        self.assertEqual([bool(polygon) for polygon in polygons], [True, False, False, False])
        self.assertEqual([bool(polygon) for polygon in polygons_of(BOUNDS, (2, 2, 1), HEARD)], [True, True, True, False, False])

    def test_each_telling_goes_through_them(self):
        chance = random.Random(33)
        for bounds, row in some_of(chance, 150, 6):
            telling = some_telling(chance, bounds, sum(row))
            hearing = hearing_of(telling, row, some_shifts(chance, bounds, len(row) + 1))
            polygons = polygons_of(bounds, row, hearing)
            self.assertEqual(len(polygons), sum(row))
            for polygon, corner in zip(polygons, zip(cell_moments(telling)[1:], telling[1])):
                self.assertTrue(has_point(polygon, corner), (bounds, row, telling))

    def test_just_what_may_be_is_in_them(self):
        chance = random.Random(34)
        found = []
        for bounds, row in some_of(chance, 200, 3):
            if not 0 < sum(row) <= 6:
                continue
            hearing = heard_by_chance(chance, bounds, row)
            for at, polygon in enumerate(polygons_of(bounds, row, hearing)):
                for corner in polygon:
                    self.assertTrue(can_end_so(bounds, row, hearing, at + 1, corner), (bounds, row, hearing, at))
                    moved = tuple(told(fraction(part) + chance.choice((0, Fraction(1, 5), Fraction(-1, 5)))) for part in corner)
                    plain = can_end_so(bounds, row, hearing, at + 1, moved)
                    self.assertIs(has_point(polygon, moved), plain, (bounds, row, hearing, at))
                    found.append(plain)
        self.assertGreater(min(found.count(True), found.count(False)), 40)


if __name__ == "__main__":
    unittest.main()

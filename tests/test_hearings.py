import random
import unittest
from fractions import Fraction

from flutterheld.forms import is_hearing
from flutterheld.hearings import gives, heard_back, hearing_of, inequalities, is_kept
from flutterheld.rides import mark_moments, steady, told_back
from flutterheld.rows import mirrored
from tests.plain import fraction, some_row, some_shifts, some_telling, told

BOUNDS = (4, (1, 2), (1, 4), 1, 2, 1)
# A shift that is longer than RUNS last: marks come out of order.
SHIFTY = (1, (1, 2), (7, 2), 1, 2, 1)


class TestHearings(unittest.TestCase):
    """Promise 16."""

    def some(self, bounds, most=9):
        chance = random.Random(6)
        for many in list(range(most)) * 4:
            row = some_row(chance, bounds, many)
            telling = some_telling(chance, bounds, sum(row))
            yield row, telling, some_shifts(chance, bounds, many + 1)

    def test_hearing_of_puts_moments_in_order(self):
        out_of_order = 0
        for bounds in (BOUNDS, SHIFTY):
            for row, telling, shifts in self.some(bounds):
                plain = [fraction(moment) + fraction(shift) for moment, shift in zip(mark_moments(telling, row), shifts)]
                out_of_order += plain != sorted(plain)
                heard = hearing_of(telling, row, shifts)
                self.assertEqual(heard, tuple(map(told, sorted(plain))))
                self.assertTrue(is_hearing(heard))
        self.assertGreater(out_of_order, 9)

    def test_a_hearing_of_one_mark(self):
        self.assertEqual(hearing_of(((1, 2), ()), (), ((-1, 4),)), ((1, 4),))

    def test_a_telling_gives_what_is_heard_of_it(self):
        for bounds in (BOUNDS, SHIFTY):
            for row, telling, shifts in self.some(bounds):
                heard = hearing_of(telling, row, shifts)
                self.assertIs(gives(bounds, row, telling, heard), True)
                self.assertIs(gives(bounds, row, telling, heard[1:]), False)
                self.assertIs(gives(bounds, row, telling, heard + heard[-1:]), False)

    def test_gives_asks_each_mark_by_its_own_moment(self):
        row, telling = (1, 1), steady((0, 1), (1, 1), 2)
        # The first two are nearer to each other's moments than to their own, and the third one is not early enough.
        self.assertTrue(gives(SHIFTY, row, telling, ((0, 1), (0, 1), (0, 1))))
        self.assertTrue(gives(SHIFTY, row, telling, ((-7, 2), (-5, 2), (-3, 2))))
        self.assertFalse(gives(SHIFTY, row, telling, ((-7, 2), (-5, 2), (-8, 5))))
        self.assertFalse(gives(SHIFTY, row, telling, ((18, 5), (4, 1), (4, 1))))
        self.assertTrue(gives(SHIFTY, row, telling, ((7, 2), (9, 2), (11, 2))))

    def test_gives_up_to_the_shift_itself(self):
        telling = steady((0, 1), (4, 1), 3)
        for nudge, given in ((Fraction(1, 4), True), (Fraction(-1, 4), True), (Fraction(251, 1000), False), (Fraction(-251, 1000), False)):
            for place in range(3):
                plain = [Fraction(moment) + (nudge if at == place else 0) for at, moment in enumerate((0, 4, 12))]
                self.assertIs(gives(BOUNDS, (1, 2), telling, tuple(map(told, plain))), given)

    def test_heard_back(self):
        self.assertEqual(heard_back(()), ())
        for row, telling, shifts in self.some(BOUNDS):
            heard = hearing_of(telling, row, shifts)
            self.assertEqual(heard_back(heard), tuple((-n, d) for n, d in reversed(heard)))
            self.assertTrue(gives(BOUNDS, mirrored(row), told_back(telling), heard_back(heard)))

    def test_the_inequalities_themselves(self):
        self.assertEqual(inequalities(BOUNDS, (), ((3, 1),)), [((1,), (13, 4)), ((-1,), (-11, 4))])
        self.assertEqual(inequalities(BOUNDS, (1,), ((0, 1), (9, 2))), [
            ((0, -1), (-4, 1)), ((1, 0), (1, 4)), ((-1, 0), (1, 4)), ((1, 1), (19, 4)), ((-1, -1), (-17, 4))])
        self.assertEqual(inequalities(BOUNDS, (2,), ((0, 1), (9, 1))), [
            ((0, -1, 0), (-4, 1)), ((0, 0, -1), (-4, 1)), ((0, 1, -1), (1, 2)), ((0, -1, 1), (1, 2)),
            ((1, 0, 0), (1, 4)), ((-1, 0, 0), (1, 4)), ((1, 1, 1), (37, 4)), ((-1, -1, -1), (-35, 4))])

    def test_the_inequalities_of_a_gapped_row(self):
        rules = inequalities(BOUNDS, (1,) + (5,), ((0, 1), (4, 1), (24, 1)))
        self.assertEqual([len(rules), rules[-2]], [6 + 2 * 5 + 2 * 3, ((1,) * 7, (97, 4))])

    def test_their_list_is_new(self):
        rules = inequalities(BOUNDS, (1,), ((0, 1), (4, 1)))
        rules.clear()
        self.assertEqual(len(inequalities(BOUNDS, (1,), ((0, 1), (4, 1)))), 5)

    def test_is_kept_up_to_the_most_itself(self):
        telling = ((1, 2), ((4, 1), (9, 2)))
        for most, kept in (((-4, 1), True), ((-401, 100), False), ((0, 1), True)):
            self.assertIs(is_kept(((0, -1, 0), most), telling), kept)
        for most, kept in (((11, 2), True), ((549, 100), False)):
            self.assertIs(is_kept(((2, -1, 2), (most[0], most[1])), ((1, 2), ((9, 2), (9, 2)))), kept)

    def test_a_telling_gives_just_if_all_are_kept(self):
        chance = random.Random(7)
        found = []
        for row, telling, shifts in self.some(BOUNDS, 6):
            heard = list(map(fraction, hearing_of(telling, row, shifts)))
            heard[chance.randrange(len(heard))] += chance.choice((0, 0, Fraction(1, 2), Fraction(-1, 3)))
            heard = tuple(map(told, sorted(heard)))
            kept = all(is_kept(rule, telling) for rule in inequalities(BOUNDS, row, heard))
            self.assertIs(gives(BOUNDS, row, telling, heard), kept)
            found.append(kept)
        self.assertEqual(set(found), {True, False})

    def test_rides_that_are_none_keep_not_all(self):
        heard = ((0, 1), (8, 1))
        for ride in (((7, 2), (9, 2)), ((4, 1), (5, 1)), ((5, 1), (4, 1))):
            self.assertFalse(all(is_kept(rule, ((0, 1), ride)) for rule in inequalities((4, (1, 2), (9, 1), 1, 2, 1), (2,), heard)))

    def test_a_long_row_with_long_numbers(self):
        row = (16,) * 30
        ride = tuple(told(Fraction(10 ** 11 + at, 10 ** 12 - 1 - at) + 4) for at in range(480))
        telling, bounds = ((1, 999999999989), ride), (4, (1, 2), (1, 4), 1, 16, 1)
        heard = hearing_of(telling, row, ((1, 4),) * 31)
        self.assertTrue(gives(bounds, row, telling, heard))
        self.assertTrue(is_kept(inequalities(bounds, row, heard)[-2], telling))


if __name__ == "__main__":
    unittest.main()

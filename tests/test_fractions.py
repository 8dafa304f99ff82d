import itertools
import random
import unittest
from fractions import Fraction

from flutterheld import fractions
from tests.plain import fraction, is_fraction, told

SOME = tuple(told(Fraction(n, d)) for n in (-7, -2, -1, 0, 1, 2, 3, 8) for d in (1, 2, 3, 12))
HUGE = (told(Fraction(10 ** 400 + 1, 3 ** 300)), told(Fraction(-7 ** 333, 2 ** 900)), told(10 ** 500))


class TestFractions(unittest.TestCase):
    """Promise 13: by integers alone, as Python's own fractions go."""

    def test_reduced(self):
        for n, d in itertools.product(range(-12, 13), range(-12, 13)):
            if d != 0:
                self.assertEqual(fractions.reduced(n, d), told(Fraction(n, d)))
        self.assertEqual(fractions.reduced(6 * 10 ** 500, -4 * 10 ** 500), (-3, 2))

    def test_whole(self):
        self.assertEqual([fractions.whole(n) for n in (-3, 0, 10 ** 50)], [(-3, 1), (0, 1), (10 ** 50, 1)])

    def test_reckoning(self):
        ways = ((fractions.added, Fraction.__add__), (fractions.lessened, Fraction.__sub__),
                (fractions.times, Fraction.__mul__), (fractions.over, Fraction.__truediv__))
        for one, other in itertools.product(SOME + HUGE, SOME + HUGE):
            for way, plain in ways:
                if way != fractions.over or other[0] != 0:
                    found = way(one, other)
                    self.assertEqual(found, told(plain(fraction(one), fraction(other))))
                    self.assertTrue(is_fraction(found))

    def test_compared(self):
        for one, other in itertools.product(SOME + HUGE, SOME + HUGE):
            plain = (fraction(one) > fraction(other)) - (fraction(one) < fraction(other))
            found = fractions.compared(one, other)
            self.assertEqual(found, plain)
            self.assertIs(type(found), int)

    def test_compared_is_no_float(self):
        # Two that any float takes to be the same.
        one, other = (10 ** 30 + 1, 10 ** 30), (10 ** 30 + 2, 10 ** 30 + 1)
        self.assertEqual([fractions.compared(one, other), fractions.compared(other, one)], [1, -1])

    def test_least_greatest_and_sum(self):
        chance = random.Random(1)
        for many in range(1, 12):
            some = [chance.choice(SOME) for _ in range(many)]
            for given in (some, tuple(some)):
                self.assertEqual(fractions.least_of(given), told(min(map(fraction, some))))
                self.assertEqual(fractions.greatest_of(given), told(max(map(fraction, some))))
                self.assertEqual(fractions.sum_of(given), told(sum(map(fraction, some))))

    def test_the_sum_of_none(self):
        self.assertEqual([fractions.sum_of([]), fractions.sum_of(())], [(0, 1), (0, 1)])

    def test_floor_and_ceil(self):
        for n, d in itertools.product(range(-30, 31), range(1, 8)):
            one = told(Fraction(n, d))
            self.assertEqual(fractions.floor_of(one), fraction(one).__floor__())
            self.assertEqual(fractions.ceil_of(one), fraction(one).__ceil__())

    def test_floor_of_a_great_one(self):
        self.assertEqual(fractions.floor_of((10 ** 40 + 1, 10 ** 20)), 10 ** 20)
        self.assertEqual(fractions.ceil_of((10 ** 40 + 1, 10 ** 20)), 10 ** 20 + 1)

    def test_rising(self):
        for some in itertools.product(((-1, 2), (-1, 3), (0, 1), (1, 3)), repeat=3):
            plain = sorted(some, key=fraction) == list(some)
            self.assertIs(fractions.rising(some), plain)
            self.assertIs(fractions.rising(list(some)), plain)

    def test_rising_of_few(self):
        self.assertEqual([fractions.rising(()), fractions.rising([(3, 1)])], [True, True])

    def test_lists_stay_as_they_were(self):
        some = [(3, 1), (1, 2), (2, 1)]
        fractions.least_of(some), fractions.greatest_of(some), fractions.sum_of(some), fractions.rising(some)
        self.assertEqual(some, [(3, 1), (1, 2), (2, 1)])

    def test_long_sums_are_quick(self):
        # Were each sum reduced by its whole d, this would take minutes.
        some = [told(Fraction(10 ** 11 + at, 10 ** 12 - 1 - 2 * at)) for at in range(2000)]
        total = fractions.sum_of(some)
        halves = fractions.added(fractions.sum_of(some[:1000]), fractions.sum_of(some[1000:]))
        self.assertEqual(total, halves)
        self.assertGreater(len(bin(total[1])), 10000)

    def test_put_in_order(self):
        chance = random.Random(2)
        for many in range(40):
            some = [chance.choice(SOME) for _ in range(many)]
            self.assertEqual(fractions.in_order(some), sorted(some, key=fraction))
            self.assertEqual(fractions.merged(fractions.in_order(some), [(0, 1)]), sorted(some + [(0, 1)], key=fraction))


if __name__ == "__main__":
    unittest.main()

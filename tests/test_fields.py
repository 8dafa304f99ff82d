import itertools
import random
import time
import unittest

from flutterheld.fields import (field_inverse, field_less, field_product, field_sum, through, value_at, value_of, weighed,
                                weights_at, with_zero)
from tests.plain_archive import value_by_products


class TestSymbols(unittest.TestCase):
    """Promise 31: SYMBOLS are added and multiplied as remainders."""

    def test_all_couples(self):
        for one, other in itertools.product(range(97), repeat=2):
            self.assertEqual(field_sum(one, other), divmod(one + other, 97)[1])
            self.assertEqual(field_less(one, other), next(part for part in (one - other, one - other + 97) if 0 <= part < 97))
            self.assertEqual(field_product(one, other), divmod(one * other, 97)[1])

    def test_inverses_by_trying(self):
        for one in range(1, 97):
            self.assertEqual([field_inverse(one)], [other for other in range(97) if one * other % 97 == 1])

    def test_kinds(self):
        for thing in (field_sum(96, 96), field_less(0, 96), field_product(96, 96), field_inverse(96)):
            self.assertIs(type(thing), int)
            self.assertTrue(0 <= thing <= 96)


def some_points(chance, many):
    return tuple((at, chance.randint(0, 96)) for at in chance.sample(range(97), many))


class TestPolynomials(unittest.TestCase):
    """Promise 31: POLYNOMIALS and the POINTS through which they go."""

    def test_value_of_by_powers(self):
        chance = random.Random(100)
        for _ in range(200):
            polynomial = tuple(chance.randint(0, 96) for _ in range(chance.randint(1, 12)))
            at = chance.choice((0, 1, 96, chance.randint(0, 96)))
            self.assertEqual(value_of(polynomial, at), sum(part * at ** power for power, part in enumerate(polynomial)) % 97)
        self.assertEqual([value_of((7,), 50), value_of((0,), 3), value_of((1, 0, 0), 96), value_of((5, 6), 0)], [7, 0, 1, 5])

    def test_through_by_trying_all(self):
        for points in (((0, 5), (1, 7)), ((96, 0), (3, 0)), ((50, 1), (2, 96)), ((8, 8), (9, 9))):
            found = [one for one in itertools.product(range(97), repeat=2)
                     if all(value_of(one, at) == value for at, value in points)]
            self.assertEqual(found, [through(points)])
        for value in (0, 96):
            self.assertEqual(through(((4, value),)), (value,))

    def test_through_some(self):
        chance = random.Random(101)
        for many in (1, 2, 3, 5, 10, 15, 40):
            points = some_points(chance, many)
            polynomial = through(points)
            self.assertEqual(len(polynomial), many)
            self.assertTrue(all(type(part) is int and 0 <= part <= 96 for part in polynomial))
            self.assertEqual([value_of(polynomial, at) for at, _ in points], [value for _, value in points])
            self.assertEqual([value_of(polynomial, at) for at in range(97)], [value_at(points, at) for at in range(97)])

    def test_coefficients_that_are_0_are_kept(self):
        self.assertEqual(through(((3, 0), (5, 0), (96, 0))), (0, 0, 0))
        self.assertEqual(through(((3, 9), (5, 9), (0, 9), (1, 9))), (9, 0, 0, 0))
        self.assertEqual(through(tuple((at, (2 * at + 1) % 97) for at in (7, 2, 30))), (1, 2, 0))

    def test_in_any_order(self):
        chance = random.Random(102)
        points = some_points(chance, 5)
        for other in itertools.permutations(points):
            self.assertEqual([through(other), value_at(other, 33)], [through(points), value_at(points, 33)])

    def test_value_at(self):
        chance = random.Random(103)
        for many in (1, 2, 4, 9, 20):
            points = some_points(chance, many)
            for at in range(97):
                self.assertEqual(value_at(points, at), value_by_products(points, at))
            # At a SYMBOL that is the at of a POINT, too.
            self.assertEqual([value_at(points, at) for at, _ in points], [value for _, value in points])

    def test_97_points(self):
        chance = random.Random(104)
        start = time.process_time()
        points = some_points(chance, 97)
        polynomial = through(points)
        self.assertEqual(len(polynomial), 97)
        self.assertEqual([value_of(polynomial, at) for at, _ in points], [value for _, value in points])
        self.assertEqual([value_at(points, at) for at, _ in points[:20]], [value for _, value in points[:20]])
        self.assertLess(time.process_time() - start, 2)

    def test_weights_and_zeros(self):
        chance = random.Random(105)
        ats = chance.sample(range(97), 6)
        for at in ats:
            self.assertEqual(weights_at(ats, at), tuple(int(at == one) for one in ats))
        self.assertEqual(weighed((2, 96), (3, 5)), (6 + 96 * 5) % 97)
        zero = (1,)
        for at in ats:
            zero = with_zero(zero, at)
        self.assertEqual([at for at in range(97) if value_of(zero, at) == 0], sorted(ats))
        self.assertEqual(len(zero), 7)


if __name__ == "__main__":
    unittest.main()

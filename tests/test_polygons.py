import itertools
import random
import unittest
from fractions import Fraction

from flutterheld.polygons import begun, cut_to, has_point, led_on, longs_at, moments_in, polygon_of
from tests.plain import fraction, is_fraction, told

BOUNDS = (4, (1, 2), (1, 4), 1, 2, 1)


def exact(corner):
    return (fraction(corner[0]), fraction(corner[1]))


def cross(one, other, third):
    return (other[0] - one[0]) * (third[1] - other[1]) - (other[1] - one[1]) * (third[0] - other[0])


def plain_longs(polygon, moment):
    """The longs at a moment, by all stretches between two corners; None if there are none."""
    found = []
    for (early, one), (late, other) in itertools.product(map(exact, polygon), repeat=2):
        if early == late == moment:
            found += [one, other]
        elif early <= moment <= late:
            found.append(one + (other - one) * (moment - early) / (late - early))
    return (min(found), max(found)) if found else None


def plain_has(polygon, corner):
    longs = plain_longs(polygon, corner[0])
    return longs is not None and longs[0] <= corner[1] <= longs[1]


def some_corners(chance, many, size=4):
    return [(told(Fraction(chance.randint(-size, size), chance.choice((1, 1, 2, 3)))),
             told(Fraction(chance.randint(-size, size), chance.choice((1, 1, 2, 3))))) for _ in range(many)]


class PolygonCase(unittest.TestCase):
    def check_form(self, polygon):
        """Whether it is told in the one way."""
        self.assertIs(type(polygon), tuple)
        for corner in polygon:
            self.assertTrue(type(corner) is tuple and len(corner) == 2 and all(map(is_fraction, corner)), polygon)
        corners = [exact(corner) for corner in polygon]
        self.assertEqual(len(set(corners)), len(corners))
        if corners:
            self.assertEqual(min(corners), corners[0])
        if len(corners) > 2:
            # It turns left at each corner, and round but once: so each corner is on the left of each side.
            for at, corner in enumerate(corners):
                self.assertGreater(cross(corners[at - 2], corners[at - 1], corner), 0, polygon)
                for other in corners:
                    self.assertGreaterEqual(cross(corners[at - 1], corner, other), 0, polygon)


class TestPolygonOf(PolygonCase):
    """Promise 22: a POLYGON is told in one way."""

    def check(self, corners):
        polygon = polygon_of(corners)
        self.check_form(polygon)
        self.assertLessEqual(set(polygon), set(corners))
        for corner in corners:
            self.assertTrue(plain_has(polygon, exact(corner)), (corners, polygon))
        return polygon

    def test_none_one_two(self):
        one, other = ((1, 2), (5, 1)), ((1, 2), (6, 1))
        self.assertEqual([polygon_of([]), polygon_of(()), polygon_of([one]), polygon_of((one, one, one))], [(), (), (one,), (one,)])
        self.assertEqual([polygon_of([other, one]), polygon_of((one, other, one, other))], [(one, other)] * 2)

    def test_all_in_a_line(self):
        for way in ((1, 0), (0, 1), (1, 1), (2, -3), (-1, 5)):
            corners = [(told(way[0] * at), told(way[1] * at)) for at in (3, 0, 5, 1, 3, 5, 2)]
            polygon = self.check(corners)
            self.assertEqual(polygon, tuple(sorted((corners[1], corners[2]), key=exact)))

    def test_needless_corners(self):
        square = [((x, 1), (y, 1)) for x in range(4) for y in range(4)]
        self.assertEqual(polygon_of(square), (((0, 1), (0, 1)), ((3, 1), (0, 1)), ((3, 1), (3, 1)), ((0, 1), (3, 1))))

    def test_by_order_of_what_they_stand_for(self):
        # As tuples these would stand in another order.
        self.assertEqual(polygon_of([((1, 2), (1, 1)), ((1, 3), (1, 1)), ((-1, 2), (1, 1)), ((1, 5), (0, 1))]),
                         (((-1, 2), (1, 1)), ((1, 5), (0, 1)), ((1, 2), (1, 1))))

    def test_some(self):
        chance = random.Random(20)
        for many in list(range(12)) * 12 + [60, 200]:
            corners = some_corners(chance, many)
            polygon = self.check(corners)
            self.assertEqual(self.check(tuple(corners[::-1])), polygon)
            self.assertEqual(self.check(list(polygon) + corners[:3]), polygon)

    def test_long_numbers(self):
        corners = [(told(Fraction(3 ** at + 1, 7 ** at)), told(Fraction(10 ** 30 + at * at, 10 ** 30 + at))) for at in range(30)]
        self.check(corners)
        near = [((0, 1), (0, 1)), ((2, 1), (2, 1)), (told(1), told(1 - Fraction(1, 10 ** 40)))]
        self.assertEqual(len(polygon_of(near)), 3)


class TestCells(PolygonCase):
    """Promise 22: what may stand at the end of a cell."""

    def points_about(self, polygon, chance, many=30):
        """Its corners, points near them, and points between."""
        corners = [exact(corner) for corner in polygon]
        yield from corners
        for _ in range(many if corners else 0):
            one, other = chance.choice(corners), chance.choice(corners)
            part = Fraction(chance.randint(0, 4), 4)
            point = tuple(a + (b - a) * part for a, b in zip(one, other))
            yield point
            yield tuple(part + chance.choice((0, 0, Fraction(1, 9), Fraction(-1, 9), 1, -1)) for part in point)

    def polygons(self, chance, many):
        for at in range(many):
            yield polygon_of(some_corners(chance, at % 9, chance.choice((1, 4, 9))))

    def test_begun(self):
        chance = random.Random(21)
        for low, wide, long in itertools.product((-3, 0, 2), (0, Fraction(1, 3), 4), (3, 4, Fraction(9, 2), 10)):
            polygon = begun(BOUNDS, told(low), told(low + wide), told(long))
            self.check_form(polygon)
            if long < 4:
                self.assertEqual(polygon, ())
                continue
            self.assertEqual(len(polygon), {(True, True): 1, (False, False): 4}.get((wide == 0, long == 4), 2))
            for moment, lasting in self.points_about(polygon, chance):
                plain = low <= moment - lasting <= low + wide and 4 <= lasting <= long
                self.assertIs(plain_has(polygon, (moment, lasting)), plain)
            for begin in (low, low + wide):
                for lasting in (4, long):
                    self.assertTrue(plain_has(polygon, (begin + lasting, lasting)))

    def check_led_on(self, bounds, polygon, chance):
        drift = fraction(bounds[1])
        after = led_on(bounds, polygon)
        self.check_form(after)

        def plain(moment, long):
            ahead = plain_longs(polygon, moment - long)
            return ahead is not None and long >= bounds[0] and long >= ahead[0] - drift and long <= ahead[1] + drift

        for moment, long in self.points_about(after, chance):
            self.assertIs(plain_has(after, (moment, long)), plain(moment, long), (bounds, polygon, moment, long))
        # What is led on from a point is there.
        for moment, long in self.points_about(polygon, chance, 10):
            if plain_has(polygon, (moment, long)):
                for lasting in (long - drift, long, long + drift, long + drift / 3):
                    self.assertIs(plain_has(after, (moment + lasting, lasting)), lasting >= bounds[0])
        return after

    def test_led_on(self):
        chance = random.Random(22)
        found = []
        for polygon in self.polygons(chance, 120):
            bounds = (chance.choice((1, 2, 3)),) + (chance.choice(((0, 1), (1, 2), (1, 1), (5, 2))),) + BOUNDS[2:]
            after = self.check_led_on(bounds, polygon, chance)
            self.check_led_on(bounds, after, chance)
            found.append(len(after))
        self.assertGreater(len(set(found)), 5)

    def test_led_on_of_points_and_stretches(self):
        point, upright, level = (((0, 1), (5, 1)),), (((0, 1), (5, 1)), ((0, 1), (6, 1))), (((0, 1), (5, 1)), ((2, 1), (5, 1)))
        still = (4, (0, 1)) + BOUNDS[2:]
        self.assertEqual([led_on(BOUNDS, ()), led_on(still, ())], [(), ()])
        self.assertEqual(led_on(BOUNDS, point), (((9, 2), (9, 2)), ((11, 2), (11, 2))))
        self.assertEqual(led_on(still, point), (((5, 1), (5, 1)),))
        self.assertEqual(led_on(BOUNDS, upright), (((9, 2), (9, 2)), ((13, 2), (13, 2))))
        self.assertEqual(led_on(still, level), (((5, 1), (5, 1)), ((7, 1), (5, 1))))
        self.assertEqual(len(led_on(BOUNDS, level)), 4)

    def test_the_cell_ahead_may_last_less_than_cell(self):
        below = (((0, 1), (3, 1)), ((1, 1), (15, 4)), ((0, 1), (7, 2)))
        self.assertEqual(led_on(BOUNDS, (((0, 1), (7, 2)),)), (((4, 1), (4, 1)),))
        self.assertEqual(led_on(BOUNDS, (((0, 1), (17, 5)),)), ())
        self.check_led_on(BOUNDS, polygon_of(below), random.Random(23))

    def test_cut_to(self):
        chance = random.Random(24)
        found = []
        for polygon in self.polygons(chance, 150):
            moments = sorted([exact(corner)[0] for corner in polygon] + [Fraction(chance.randint(-9, 9), 2) for _ in range(2)])
            low, high = sorted((chance.choice(moments), chance.choice(moments)))
            left = cut_to(polygon, told(low), told(high))
            self.check_form(left)
            for moment, long in list(self.points_about(polygon, chance)) + list(self.points_about(left, chance)):
                plain = low <= moment <= high and plain_has(polygon, (moment, long))
                self.assertIs(plain_has(left, (moment, long)), plain, (polygon, low, high))
            found.append((len(left), low == high))
        self.assertGreater(len(set(found)), 8)

    def test_cut_to_one_moment(self):
        square = polygon_of([((x, 1), (y, 1)) for x in (0, 2) for y in (4, 6)])
        self.assertEqual(cut_to(square, (1, 1), (1, 1)), (((1, 1), (4, 1)), ((1, 1), (6, 1))))
        self.assertEqual(cut_to(square, (2, 1), (2, 1)), (((2, 1), (4, 1)), ((2, 1), (6, 1))))
        self.assertEqual([cut_to(square, (5, 2), (5, 2)), cut_to(square, (-9, 1), (-1, 9)), cut_to((), (0, 1), (1, 1))], [(), (), ()])
        self.assertEqual(cut_to(square, (-5, 1), (5, 1)), square)
        corner = polygon_of([((0, 1), (4, 1)), ((1, 1), (5, 1)), ((1, 1), (6, 1))])
        self.assertEqual(cut_to(corner, (-1, 1), (0, 1)), (((0, 1), (4, 1)),))

    def test_longs_and_moments(self):
        chance = random.Random(25)
        for polygon in self.polygons(chance, 90):
            moments = [exact(corner)[0] for corner in polygon]
            plain = (told(min(moments)), told(max(moments))) if moments else None
            self.assertEqual(moments_in(polygon), plain)
            for moment in moments + [Fraction(chance.randint(-20, 20), 3) for _ in range(4)]:
                longs = plain_longs(polygon, moment)
                self.assertEqual(longs_at(polygon, told(moment)), longs and tuple(map(told, longs)))

    def test_nothing_there(self):
        self.assertEqual([longs_at((), (0, 1)), moments_in(()), longs_at((((0, 1), (4, 1)),), (1, 9))], [None] * 3)
        self.assertEqual([longs_at((((0, 1), (4, 1)),), (0, 1)), moments_in((((1, 3), (4, 1)),))], [((4, 1), (4, 1)), ((1, 3), (1, 3))])

    def test_has_point(self):
        chance = random.Random(26)
        found = []
        for polygon in self.polygons(chance, 90):
            for moment, long in self.points_about(polygon, chance):
                plain = plain_has(polygon, (moment, long))
                self.assertIs(has_point(polygon, (told(moment), told(long))), plain)
                found.append(plain)
        self.assertEqual(set(found), {True, False})
        self.assertIs(has_point((), ((0, 1), (0, 1))), False)

    def test_nothing_is_rounded(self):
        tiny = told(Fraction(1, 10 ** 60))
        polygon = begun(BOUNDS, (0, 1), tiny, (5, 1))
        for _ in range(40):
            polygon = led_on((4, told(Fraction(1, 3 ** 9)), (0, 1), 1, 2, 1), polygon)
            self.check_form(polygon)
        low, high = moments_in(polygon)
        self.assertEqual(low, (164, 1))
        self.assertEqual(high, told(41 * 5 + Fraction(1, 10 ** 60) + Fraction(40 * 41, 2 * 3 ** 9)))


if __name__ == "__main__":
    unittest.main()

import random
import time
import unittest

from flutterheld.counts import all_bodies, many_bodies
from flutterheld.errors import NoBody
from flutterheld.forms import is_body
from flutterheld.ranks import body_at, number_of
from flutterheld.rows import rows_over
from tests.plain import RUNS
from tests.test_counts import with_runs


class TestRanks(unittest.TestCase):
    """Promise 27, of 8 and 10: ranks against the list."""

    def test_against_the_list(self):
        for lo, most in RUNS + ((1, 16), (9, 16)):
            bounds = with_runs(lo, most)
            for data in range(12):
                bodies = rows_over(bounds, data)
                self.assertEqual([body_at(bounds, data, number) for number in range(len(bodies))], bodies)
                self.assertEqual([number_of(bounds, data, body) for body in bodies], list(range(len(bodies))))

    def test_against_all_of_2000(self):
        bounds = with_runs(12, 37)
        for number, body in enumerate(all_bodies(bounds, 66)):
            self.assertEqual([body_at(bounds, 66, number), number_of(bounds, 66, body)], [body, number])

    def test_no_body(self):
        for bounds, data, numbers in ((with_runs(2, 3), 9, (-1, 5, 6, -5, -10 ** 39, 10 ** 39)), (with_runs(2, 3), 1, (0, -1, 1)),
                                      (with_runs(7, 7), 240, (0,)), (with_runs(1, 2), 0, (1, -1)), (with_runs(1, 16), 240, (-1, 2 ** 240))):
            many = many_bodies(bounds, data)
            for number in numbers + (many, -many - 1):
                with self.assertRaises(NoBody) as caught:
                    body_at(bounds, data, number)
                self.assertEqual(caught.exception.number, number)

    def test_no_data(self):
        self.assertEqual([body_at(with_runs(2, 3), 0, 0), number_of(with_runs(2, 3), 0, ())], [(), 0])

    def test_240_data_cells(self):
        chance = random.Random(60)
        start = time.process_time()
        for lo, most in ((1, 2), (1, 16), (2, 3), (7, 16), (15, 16)):
            bounds = with_runs(lo, most)
            form, many = (bounds, 240, 1, 0), many_bodies(bounds, 240)
            numbers = sorted({0, many - 1, many // 2} | {chance.randrange(many) for _ in range(20)})
            bodies = [body_at(bounds, 240, number) for number in numbers]
            self.assertTrue(all(is_body(form, body) for body in bodies))
            self.assertEqual(bodies, sorted(bodies))
            self.assertEqual([number_of(bounds, 240, body) for body in bodies], numbers)
        self.assertLess(time.process_time() - start, 2)

    def test_the_first_and_the_last_one(self):
        many = many_bodies(with_runs(1, 16), 240)
        self.assertEqual([body_at(with_runs(1, 16), 240, 0), body_at(with_runs(1, 16), 240, many - 1)], [(1,) * 240, (16,) * 15])

    def test_neighbours_are_next_to_each_other(self):
        bounds, chance = with_runs(2, 3), random.Random(61)
        for _ in range(30):
            number = chance.randrange(many_bodies(bounds, 240) - 1)
            one, other = body_at(bounds, 240, number), body_at(bounds, 240, number + 1)
            self.assertLess(one, other)
            at = next(at for at in range(len(one)) if one[at] != other[at])
            # Behind the first place that differs stands the greatest of all, and the least one.
            left = 240 - sum(one[:at + 1])
            self.assertEqual(number_of(bounds, left, one[at + 1:]), many_bodies(bounds, left) - 1)
            self.assertEqual(number_of(bounds, 240 - sum(other[:at + 1]), other[at + 1:]), 0)


if __name__ == "__main__":
    unittest.main()

import itertools
import random
import time
import unittest

from flutterheld.counts import all_bodies, bits_of, counts_to, is_begun, many_bodies
from flutterheld.errors import TooMany
from flutterheld.rows import rows_over
from tests.plain import RUNS


def with_runs(lo, most):
    return (22, (1, 2), (3, 2), lo, most, 1)


class TestCounts(unittest.TestCase):
    """Promise 26, of 8 and 10: counts against going through all."""

    def test_against_listing(self):
        for lo, most in RUNS + ((1, 16), (7, 16), (14, 16)):
            bounds = with_runs(lo, most)
            plain = [len(rows_over(bounds, cells)) for cells in range(14)]
            self.assertEqual(counts_to(bounds, 13), tuple(plain))
            self.assertIs(type(counts_to(bounds, 13)), tuple)
            for data, many in enumerate(plain):
                self.assertEqual(many_bodies(bounds, data), many)
                self.assertEqual(counts_to(bounds, data), tuple(plain[:data + 1]))

    def test_no_data(self):
        for lo, most in RUNS:
            bounds = with_runs(lo, most)
            self.assertEqual([many_bodies(bounds, 0), counts_to(bounds, 0), bits_of(bounds, 0), all_bodies(bounds, 0)], [1, (1,), 0, [()]])
            self.assertEqual([is_begun(bounds, 0, ()), is_begun(bounds, 0, (lo,))], [True, False])

    def test_240_data(self):
        self.assertEqual(many_bodies(with_runs(1, 240), 240), 2 ** 239)
        fibonacci = [1, 1]
        while len(fibonacci) < 241:
            fibonacci.append(fibonacci[-1] + fibonacci[-2])
        self.assertEqual(counts_to(with_runs(1, 2), 240), tuple(fibonacci))
        self.assertEqual([many_bodies(with_runs(7, 7), data) for data in (238, 239, 240)], [1, 0, 0])

    def test_bits(self):
        for lo, most in RUNS:
            bounds = with_runs(lo, most)
            for data in range(60):
                many, bits = many_bodies(bounds, data), bits_of(bounds, data)
                self.assertIs(bits is None, many == 0)
                self.assertTrue(bits is None or 2 ** bits <= many < 2 ** (bits + 1))

    def test_bits_of_numbers_of_any_size(self):
        # Just 2 ** 239, and what any float would take for it.
        self.assertEqual([bits_of(with_runs(1, 240), 240), bits_of(with_runs(1, 239), 240)], [239, 238])
        self.assertEqual([bits_of(with_runs(1, 16), 240), bits_of(with_runs(1, 1), 240)],
                         [len(f"{many_bodies(with_runs(1, 16), 240):b}") - 1, 0])

    def test_begun(self):
        for lo, most in ((1, 2), (2, 3), (2, 5), (3, 4), (5, 7)):
            bounds = with_runs(lo, most)
            for data in range(13):
                begins = {body[:at] for body in rows_over(bounds, data) for at in range(len(body) + 1)}
                for many in range(5):
                    for row in itertools.product(range(lo, most + 1), repeat=many):
                        self.assertIs(is_begun(bounds, data, row), row in begins, (lo, most, data, row))

    def test_begun_by_the_whole_body_and_by_more(self):
        bounds = with_runs(2, 3)
        self.assertEqual([is_begun(bounds, 9, row) for row in ((3, 3, 3), (3, 3), (3, 3, 2), (3, 3, 3, 2), (3,) * 100)],
                         [True, True, False, False, False])


class TestAllBodies(unittest.TestCase):
    """Promise 26: all BODIES, listed."""

    def test_against_rows_over(self):
        for lo, most in RUNS + ((9, 16),):
            bounds = with_runs(lo, most)
            for data in range(13):
                rows = rows_over(bounds, data)
                if len(rows) <= 2000:
                    self.assertEqual(all_bodies(bounds, data), rows)

    def test_just_2000(self):
        for lo, most, data in ((1, 7, 12), (12, 37, 66)):
            bodies = all_bodies(with_runs(lo, most), data)
            self.assertEqual([len(bodies), len(set(bodies)), bodies == sorted(bodies)], [2000, 2000, True])
            self.assertTrue(all(sum(body) == data and all(lo <= run <= most for run in body) for body in bodies))
        for lo, most, data in ((23, 30, 147), (1, 2, 240), (1, 16, 240)):
            with self.assertRaises(TooMany) as caught:
                all_bodies(with_runs(lo, most), data)
            self.assertEqual(caught.exception.most, 2000)

    def test_few_among_many_begins(self):
        # 240 cells by RUNS of 15 and 16: nearly each begin comes to nothing.
        self.assertEqual(all_bodies(with_runs(15, 16), 240), [(15,) * 16, (16,) * 15])
        self.assertEqual(all_bodies(with_runs(16, 16), 239), [])
        self.assertEqual(all_bodies(with_runs(1, 1), 240), [(1,) * 240])

    def test_the_list_is_new(self):
        bounds = with_runs(2, 3)
        all_bodies(bounds, 9).append(None)
        all_bodies(bounds, 1).append(None)
        self.assertEqual([len(all_bodies(bounds, 9)), all_bodies(bounds, 1)], [5, []])


class TestQuick(unittest.TestCase):
    def test_at_once(self):
        start = time.process_time()
        for lo in range(1, 17):
            bounds = with_runs(lo, 16)
            many_bodies(bounds, 240)
            is_begun(bounds, 240, (16,) * random.Random(lo).randint(0, 15))
        self.assertLess(time.process_time() - start, 1)


if __name__ == "__main__":
    unittest.main()

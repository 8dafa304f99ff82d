import functools
import random
import time
import unittest
from fractions import Fraction
from unittest import mock

from flutterheld.counts import all_bodies, bits_of
from flutterheld.densest import best_plan, bounds_of_plan, densest, is_plan, plans_of
from flutterheld.harms import is_watchful
from tests.plain import ODD, deep, nearly, told

PLAIN = ((0, 1), (0, 1), 12, 3, 1)
TAPE = ((1, 2), (3, 2), 300, 3, 1)
SOME = ((0, 1), (1, 4), (1, 1), (7, 3))


@functools.lru_cache(None)
def plain_many(lo, most, data):
    """How many BODIES there are: by listing them, as far as they can be listed, beyond it by their last RUNS."""
    if data < 20:
        return len(all_bodies((1, (0, 1), (0, 1), lo, most, 1), data))
    return sum(plain_many(lo, most, data - run) for run in range(lo, most + 1))


def plain_bits(bounds, data):
    many = plain_many(bounds[3], bounds[4], data)
    return None if many == 0 else max(b for b in range(data + 1) if 2 ** b <= many)


def plain_plans(tape):
    """By going through cells and data, one by one."""
    drift, shift, ticks, greatest, leads = tape
    plans = []
    for lo in range(1, greatest + 1):
        for most in range(lo, greatest + 1):
            for lead in range(1, leads + 1):
                # Beyond ticks no FULL ROW would be short enough.
                cells = (cell for cell in range(1, ticks + 1) if is_watchful((cell, drift, shift, lo, most, lead)))
                cell = next(cells, None) if 2 * lo > most else None
                if cell is None:
                    continue
                bounds = (cell, drift, shift, lo, most, lead)
                found = [(-plain_bits(bounds, data), data) for data in range(1, ticks + 1)
                         if (2 * lead * most + data) * cell <= ticks and plain_bits(bounds, data) is not None]
                if found:
                    plans.append((lo, most, lead, cell, min(found)[1], -min(found)[0]))
    return plans


class TestPlans(unittest.TestCase):
    """Promise 28, of 8 and 10: PLANS against going through all data."""

    def tapes(self):
        for drift in SOME:
            for shift in SOME:
                for ticks, most, lead in ((1, 1, 1), (14, 3, 1), (37, 2, 2), (120, 4, 2), (260, 3, 2)):
                    tape = (drift, shift, ticks, most, lead)
                    yield tape

    def test_against_going_through_all(self):
        found = []
        for tape in self.tapes():
            plans = plans_of(tape)
            self.assertIs(type(plans), list)
            self.assertEqual(plans, plain_plans(tape), tape)
            found.append(len(plans))
            greatest = max((plan[5] for plan in plans), default=None)
            densest_ones = [plan for plan in plans if plan[5] == greatest]
            self.assertEqual(densest(tape), densest_ones, tape)
            best = min(densest_ones, key=lambda plan: (plan[1], -plan[0], plan[2]), default=None)
            self.assertEqual(best_plan(tape), best, tape)
            for plan in plans:
                self.assertIs(is_plan(tape, plan), True)
                bounds = bounds_of_plan(tape, plan)
                self.assertEqual(bounds, (plan[3],) + tape[:2] + plan[:3])
                self.assertTrue(is_watchful(bounds))
        self.assertTrue(0 in found and max(found) > 6)

    def test_in_order(self):
        for tape in (PLAIN, TAPE, ((0, 1), (1, 5), 900, 8, 4)):
            plans = plans_of(tape)
            self.assertEqual(plans, sorted(set(plans)))
            self.assertEqual(len({plan[:3] for plan in plans}), len(plans))

    def test_no_plan(self):
        for tape in (((0, 1), (0, 1), 2, 3, 1), ((1, 1), (1, 1), 1, 8, 4), ((0, 1), (10 ** 6, 1), 3000, 8, 4), ((0, 1), (0, 1), 2, 1, 1)):
            self.assertEqual([plans_of(tape), densest(tape), best_plan(tape)], [[], [], None])
        self.assertEqual(plans_of(((0, 1), (0, 1), 3, 3, 1)), [(1, 1, 1, 1, 1, 0)])

    def test_bits_of_none_are_bits(self):
        tape = ((0, 1), (0, 1), 3, 1, 1)
        self.assertEqual([densest(tape), best_plan(tape)], [[(1, 1, 1, 1, 1, 0)], (1, 1, 1, 1, 1, 0)])

    def test_the_best_one_of_some(self):
        # Of all with as many bits it is the one with the least most, then the greatest lo, then the least lead.
        self.assertEqual(densest(((0, 1), (0, 1), 30, 1, 4)), [(1, 1, lead, 1, 1, 0) for lead in (1, 2, 3, 4)])
        self.assertEqual(best_plan(((0, 1), (0, 1), 30, 1, 4)), (1, 1, 1, 1, 1, 0))
        shown = set()
        for ticks in range(5, 60):
            tape = ((0, 1), (0, 1), ticks, 8, 3)
            some, best = densest(tape), best_plan(tape)
            self.assertEqual(best[1], min(plan[1] for plan in some))
            self.assertEqual(best[2], min(plan[2] for plan in some if plan[:2] == best[:2]))
            shown |= {"most"} if len({plan[1] for plan in some}) > 1 else set()
            shown |= {"lead"} if len({plan[2] for plan in some if plan[:2] == best[:2]}) > 1 else set()
        self.assertEqual(shown, {"most", "lead"})

    def test_the_best_one_of_such_as_seldom_meet(self):
        some = [(3, 5, 1, 9, 30, 7), (3, 6, 1, 9, 30, 7), (4, 5, 1, 9, 30, 7), (4, 5, 2, 9, 30, 7), (4, 6, 1, 9, 30, 7), (5, 7, 1, 9, 30, 7)]
        for chosen in (some, some[::-1]):
            with mock.patch("flutterheld.densest.densest", return_value=chosen):
                self.assertEqual(best_plan(TAPE), (4, 5, 1, 9, 30, 7))

    def test_nothing_is_denser(self):
        chance = random.Random(70)
        for _ in range(6):
            tape = (told(Fraction(chance.randint(0, 3), chance.randint(1, 5))), told(Fraction(chance.randint(0, 3), 3)), 160, 4, 2)
            greatest = max((plan[5] for plan in densest(tape)), default=-1)
            for lo in range(1, 5):
                for most in range(lo, 5):
                    for lead in (1, 2):
                        for cell in range(1, 161):
                            bounds = (cell,) + tape[:2] + (lo, most, lead)
                            if not is_watchful(bounds):
                                continue
                            for data in range(1, 160 // cell - 2 * lead * most + 1):
                                bits = bits_of(bounds, data)
                                self.assertTrue(bits is None or bits <= greatest, (tape, bounds, data))

    def test_long_tapes_answer_at_once(self):
        start = time.process_time()
        plans = plans_of(((0, 1), (0, 1), 3000, 8, 4))
        self.assertEqual(len(plans), 80)
        self.assertGreater(max(plan[4] for plan in plans), 2900)
        self.assertEqual(best_plan(((0, 1), (0, 1), 3000, 8, 4))[5], max(plan[5] for plan in plans))
        self.assertLess(time.process_time() - start, 5)

    def test_data_may_be_above_240(self):
        plan = next(plan for plan in plans_of(((0, 1), (0, 1), 500, 3, 1)) if plan[:2] == (2, 3))
        self.assertEqual([plan[4] > 240, bits_of((1, (0, 1), (0, 1), 2, 3, 1), plan[4])], [True, plan[5]])
        self.assertLess(bits_of((1, (0, 1), (0, 1), 2, 3, 1), plan[4] - 1), plan[5])

    def test_the_list_is_new(self):
        plans_of(PLAIN).append(None)
        densest(PLAIN).append(None)
        self.assertEqual([len(plans_of(PLAIN)), densest(PLAIN)], [4, [(2, 3, 1, 1, 5, 1)]])


class TestIsPlan(unittest.TestCase):
    """Promise 28: is_plan of any value."""

    def test_nearly_plans(self):
        for tape in (PLAIN, TAPE):
            plans = plans_of(tape)
            for plan in plans:
                for thing in nearly(plan):
                    plain = type(thing) is tuple and all(type(part) is int for part in thing) and thing in plans
                    self.assertIs(is_plan(tape, thing), plain, (tape, thing))

    def test_truths_are_no_integers(self):
        for thing in ((True, 1, 1, 1, 1, 0), (1, 1, 1, 1, 1, False), (1, True, 1, 1, 1, 0), (1, 1, True, 1, 1, 0), (1, 1, 1, True, 1, 0)):
            self.assertEqual([is_plan(PLAIN, thing), is_plan(PLAIN, tuple(map(int, thing)))], [False, True])

    def test_any_value(self):
        far = ((1, 4, 1, 1, 1, 0), (0, 0, 1, 1, 1, 0), (-1, 2, 1, 1, 1, 0), (1, 2, 1, 1, 1, 0), (3, 2, 1, 1, 1, 0), (4, 4, 1, 1, 4, 0),
               (1, 1, 2, 1, 1, 0), (1, 1, 0, 1, 1, 0), (1, 1, 10 ** 39, 1, 1, 0), (10 ** 39,) * 6, (1, 10 ** 39, 1, 1, 1, 0), (1, 1, 1, 1, 1),
               [1, 1, 1, 1, 1, 0], deep(20))
        for thing in far + ODD:
            self.assertIs(is_plan(PLAIN, thing), False, thing)

    def test_where_there_are_too_few_ticks(self):
        tape = ((1, 1), (1, 1), 5, 3, 2)
        self.assertEqual([is_plan(tape, (1, 1, 1, 1, 1, 0)), is_plan(tape, (2, 3, 1, 22, 5, 1)), is_plan(tape, None)], [False] * 3)


if __name__ == "__main__":
    unittest.main()

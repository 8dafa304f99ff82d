import random
import unittest

from flutterheld import forms
from tests import plain

BOUNDS = (4, (1, 2), (1, 4), 1, 2, 1)
OTHERS = (22, (1, 2), (3, 2), 2, 3, 2)
FORM = (OTHERS, 5, 2, 1)
RIDE = ((4, 1), (9, 2), (9, 2), (5, 1), (9, 2))


class TestForms(unittest.TestCase):
    """Promise 12, with the definitions of 2: each form of any value, against the same told otherwise."""

    def asked(self, name, things, *given):
        """Ask a form, and the plain one of this name, of all things and of what is nearly like them."""
        way, plain_way = getattr(forms, name), getattr(plain, "is_int" if name == "is_integer" else name)
        told_so = []
        for thing in things:
            for other in [thing] + list(plain.nearly(thing)):
                found = way(*given, other)
                self.assertIs(found, plain_way(*given, other), (name, given, other))
                told_so.append(found)
        # Neither answer may be the only one, or nothing would be shown.
        self.assertIn(True, told_so)
        self.assertIn(False, told_so)

    def test_integers(self):
        self.asked("is_integer", (0, 1, -5, 10 ** 39))
        self.assertEqual([forms.is_integer(thing) for thing in (True, False, 1, "1", None)], [False, False, True, False, False])

    def test_fractions(self):
        self.asked("is_fraction", ((0, 1), (3, 2), (-7, 12), (10 ** 39, 10 ** 39 - 1), (1, 1)))
        wrong = ((0, 2), (2, 4), (1, 0), (1, -1), (True, 1), (1, True), [1, 2], (1,), (1, 2, 3), (0, -1))
        self.assertEqual([forms.is_fraction(thing) for thing in wrong], [False] * len(wrong))

    def test_lots(self):
        self.asked("is_lot", ((), (0,), (-3, 0, 5), (1, 2)))
        wrong = ((1, 1), (2, 1), (0, True), [0, 1], (False,), (0, (1,)))
        self.assertEqual([forms.is_lot(thing) for thing in wrong], [False] * len(wrong))

    def test_bounds(self):
        self.asked("are_bounds", (BOUNDS, OTHERS, (10 ** 9, (0, 1), (0, 1), 5, 5, 10 ** 12)))

    def test_the_limits_are_not_looked_at(self):
        great = (10 ** 30, (10 ** 20, 1), (10 ** 20, 3), 100, 10 ** 25, 10 ** 25)
        self.assertTrue(forms.are_bounds(great))
        self.assertTrue(forms.is_row(great, (100, 10 ** 25)))
        self.assertFalse(forms.is_led(great, (10 ** 25,) * 100))
        self.assertTrue(forms.is_format((great, 10 ** 20, 10 ** 20, 10 ** 20)))
        self.assertFalse(forms.is_full((great, 10 ** 20, 1, 0), (10 ** 25,) * 100))

    def test_runs(self):
        self.asked("is_run", (1, 2), BOUNDS)
        self.asked("is_run", (2, 3), OTHERS)
        self.assertFalse(forms.is_run(BOUNDS, True))

    def test_rows(self):
        self.asked("is_row", ((), (1, 2, 2), (2,)), BOUNDS)
        self.asked("is_row", ((), (3, 3, 2)), OTHERS)

    def test_led_rows(self):
        self.asked("is_led", ((2,), (2, 1), (2, 2, 1)), BOUNDS)
        self.asked("is_led", ((3, 3), (3, 3, 2), (3, 3, 3, 3)), OTHERS)
        self.assertEqual([forms.is_led(OTHERS, row) for row in ((), (3,), (3, 2, 3), (3, 3))], [False, False, False, True])

    def test_gapped_rows(self):
        self.asked("is_gapped", (((), 1), ((2, 1), 3), ((1,), 10 ** 9)), BOUNDS)
        self.assertEqual([forms.is_gapped(BOUNDS, thing) for thing in (((), 0), ((), True), ((3,), 1), ((1, 2, 1),))], [False] * 4)

    def test_rides(self):
        self.asked("is_ride", ((), ((4, 1),), RIDE), BOUNDS)
        self.asked("is_ride", (((4, 1),) * 3, ((9, 2),) * 2), (4, (0, 1), (0, 1), 1, 1, 1))
        self.assertEqual([forms.is_ride(BOUNDS, ride) for ride in (((7, 2),), ((4, 1), (5, 1)), ((5, 1), (4, 1)), [(4, 1)])], [False] * 4)

    def test_tellings(self):
        self.asked("is_telling", (((0, 1), ()), ((-1, 3), RIDE)), BOUNDS)

    def test_hearings(self):
        self.asked("is_hearing", ((), ((0, 1),), ((0, 1), (9, 2), (9, 2)), ((-1, 2), (-1, 3), (5, 1))))

    def test_formats(self):
        self.asked("is_format", (FORM, (BOUNDS, 1, 1, 0)))

    def test_bodies(self):
        self.asked("is_body", ((2, 3), (3, 2)), FORM)
        self.asked("is_body", ((1, 2, 2), (1, 1, 1, 1, 1)), (BOUNDS, 5, 1, 0))
        self.assertEqual([forms.is_body(FORM, row) for row in ((), (3, 3), (2, 2), (5,), (4, 1))], [False] * 5)

    def test_full_rows(self):
        self.asked("is_full", ((3, 3, 2, 3, 3, 3), (3, 3, 3, 2, 3, 3)), FORM)
        self.asked("is_full", ((2, 2, 1, 2), (2, 1, 2, 2), (2, 1, 1, 1, 2)), (BOUNDS, 3, 1, 0))
        # The LEAD is not the TAIL as well, and the cells between them count.
        wrong = ((3, 3), (3, 3, 3), (3, 3, 3, 3), (3, 3, 2, 3, 3), (3, 3, 2, 3, 3, 2), (2, 3, 2, 3, 3, 3), (3, 3, 2, 2, 3, 3))
        self.assertEqual([forms.is_full(FORM, row) for row in wrong], [False] * len(wrong))

    def test_harms(self):
        self.asked("is_harm", (("missed", ()), ("missed", (0, 2)), ("clicks", ()), ("clicks", ((-1, 2), (0, 1), (1, 1)))))
        wrong = (("missed", (-1, 0)), ("missed", (1, 1)), ("clicks", ((1, 1), (1, 1))), ("clicks", (1, 2)), ("missed", ((1, 1),)),
                 ("heard", ()), (b"missed", ()), ["missed", ()], ("missed",), ("clicks", [(1, 1)]))
        self.assertEqual([forms.is_harm(thing) for thing in wrong], [False] * len(wrong))

    def test_a_harm_knows_nothing_of_a_hearing(self):
        self.assertTrue(forms.is_harm(("missed", (10 ** 30,))))

    def test_lead(self):
        self.assertEqual([forms.lead_of(BOUNDS), forms.lead_of(OTHERS), forms.lead_of((1, (0, 1), (0, 1), 1, 7, 5))],
                         [(2,), (3, 3), (7, 7, 7, 7, 7)])

    def test_none_raises_of_odd_values(self):
        ways = ((forms.is_integer, ()), (forms.is_fraction, ()), (forms.is_lot, ()), (forms.are_bounds, ()), (forms.is_run, (BOUNDS,)),
                (forms.is_row, (BOUNDS,)), (forms.is_led, (BOUNDS,)), (forms.is_gapped, (BOUNDS,)), (forms.is_ride, (BOUNDS,)),
                (forms.is_telling, (BOUNDS,)), (forms.is_hearing, ()), (forms.is_format, ()), (forms.is_body, (FORM,)),
                (forms.is_full, (FORM,)), (forms.is_harm, ()))
        chance = random.Random(3)
        for _ in range(3000):
            thing = tuple(chance.choice(plain.ODD) for _ in range(chance.randint(1, 6)))
            for way, given in ways:
                self.assertIn(way(*given, thing), (True, False))
                self.assertIs(type(way(*given, [thing])), bool)


if __name__ == "__main__":
    unittest.main()

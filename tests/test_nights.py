import random
import unittest
from fractions import Fraction

from flutterheld.forms import lead_of
from flutterheld.harms import is_mild
from flutterheld.hearings import hearing_of
from flutterheld.nights import even_night, is_mild_night, is_night, swayed, swayed_night
from flutterheld.rides import steady
from tests import plain
from tests.plain import ODD, deep, nearly, told
from tests.plain_archive import SHORT, some_mild_harm, some_night_of
from tests.test_reels import FORMS, beginnings, full_rows

FORM = ((22, (1, 2), (3, 2), 2, 3, 2), 5, 2, 1)
FULL = (3, 3, 2, 3, 3, 3)
REEL = (FULL, None, (3, 3, 2), ())


def is_night_by_hand(form, reel, thing):
    """As DOC.md tells it."""
    if type(thing) is not tuple or len(thing) != len(reel):
        return False
    for slot, one in zip(reel, thing):
        if slot is None or one is None:
            if slot is not None or one is not None:
                return False
            continue
        if type(one) is not tuple or len(one) != 3 or not plain.is_telling(form[0], one[0]) or len(one[0][1]) != sum(slot):
            return False
        telling, shifts, harm = one
        if type(shifts) is not tuple or len(shifts) != len(slot) + 1 or not all(map(plain.is_fraction, shifts)):
            return False
        if any(abs(plain.fraction(shift)) > plain.fraction(form[0][2]) for shift in shifts) or not plain.is_harm(harm):
            return False
        if harm[0] == "missed" and harm[1] and harm[1][-1] > len(slot):
            return False
    return True


def some_reel(chance, form, many):
    return tuple(chance.choice(beginnings(form)) for _ in range(many))


def some_night(chance, form, reel, share):
    """A NIGHT, a share of the SLOTS under a MILD HARM."""
    night = []
    for slot in reel:
        if slot is None:
            night.append(None)
            continue
        one = some_night_of(chance, form[0], slot, chance.choice((("missed", ()), ("clicks", ()))))
        if chance.random() < share:
            one = one[:2] + (some_mild_harm(chance, form, slot, one[0], one[1]),)
        night.append(one)
    return tuple(night)


class TestIsNight(unittest.TestCase):
    """Promise 38: is_night of any value."""

    def test_some(self):
        chance = random.Random(170)
        for form in FORMS:
            for _ in range(20):
                reel = some_reel(chance, form, chance.randint(0, 4))
                night = some_night(chance, form, reel, 0.5)
                self.assertIs(is_night(form, reel, night), True)
                self.assertTrue(is_night_by_hand(form, reel, night))
                for thing in (night + (None,), night[1:] if night else [], list(night), night[::-1], None):
                    self.assertIs(is_night(form, reel, thing), is_night_by_hand(form, reel, thing))

    def test_nearly_nights(self):
        form, reel = FORM, ((3,), None, ())
        telling = ((0, 1), ((22, 1), (45, 2), (23, 1)))
        found = []
        for harm in (("missed", (1,)), ("clicks", ((1, 2), (70, 1)))):
            night = ((telling, ((3, 2), (-3, 2)), harm), None, (((5, 1), ()), ((1, 1),), ("missed", ())))
            for thing in [night] + list(nearly(night)) + list(ODD) + [deep(20)]:
                is_so = is_night_by_hand(form, reel, thing)
                self.assertIs(is_night(form, reel, thing), is_so, thing)
                found.append(is_so)
        self.assertGreater(min(found.count(True), found.count(False)), 50)

    def test_single_faults(self):
        telling, shifts = steady((0, 1), (22, 1), 3), ((0, 1), (0, 1))

        def is_one(*one):
            return is_night(FORM, ((3,),), (one,))

        self.assertIs(is_one(telling, shifts, ("missed", ())), True)
        for other in (steady((0, 1), (22, 1), 2), steady((0, 1), (22, 1), 4), steady((0, 1), (21, 1), 3), ((0, 1), ((22, 1), (23, 1), (23, 1))), None):
            self.assertIs(is_one(other, shifts, ("missed", ())), False)
        for other in (((0, 1),), ((0, 1),) * 3, ((3, 2), (5, 3)), ((-3, 2), (-8, 5)), [(0, 1), (0, 1)], (0, 0), None, ()):
            self.assertIs(is_one(telling, other, ("missed", ())), False)
        self.assertEqual([is_one(telling, ((3, 2), (-3, 2)), ("missed", ())), is_one(telling, shifts, ("missed", (0, 1)))], [True, True])
        for other in (("missed", (2,)), ("missed", (0, 2)), ("missed", (-1,)), ("missed", (1, 0)), ("clicks", ((1, 1), (1, 1))), ("clicks", (1,)),
                      ("missed",), ("heard", ()), None, ["missed", ()]):
            self.assertIs(is_one(telling, shifts, other), False)
        self.assertIs(is_one(telling, shifts, ("clicks", ((-10 ** 9, 1), (0, 1)))), True)
        self.assertEqual([is_night(FORM, (None,), (None,)), is_night(FORM, (None,), ((telling, shifts, ("missed", ())),)),
                          is_night(FORM, ((3,),), (None,)), is_night(FORM, (), ())], [True, False, False, True])


class TestMildNights(unittest.TestCase):
    """Promise 38: is_mild_night."""

    def test_all_harms_mild(self):
        chance = random.Random(171)
        found = []
        for form in FORMS:
            for _ in range(40):
                reel = some_reel(chance, form, chance.randint(0, 3))
                night = some_night(chance, form, reel, 0.5)
                self.assertIs(is_mild_night(form, reel, night), True)
                at = chance.randrange(len(reel)) if reel else None
                if at is None or reel[at] is None:
                    continue
                telling, shifts, _ = night[at]
                harm = ("missed", tuple(sorted(chance.sample(range(len(reel[at]) + 1), chance.randint(0, min(3, len(reel[at])))))))
                other = night[:at] + ((telling, shifts, harm),) + night[at + 1:]
                mild = is_mild(form, reel[at], hearing_of(telling, reel[at], shifts), harm)
                self.assertIs(is_mild_night(form, reel, other), mild)
                found.append(mild)
        self.assertGreater(min(found.count(True), found.count(False)), 10)

    def test_some(self):
        night = even_night(FORM, REEL)
        for at, harm, mild in ((0, ("missed", (3,)), True), (0, ("missed", (2, 4)), False), (2, ("clicks", ((1, 1),)), False),
                               (2, ("missed", (3,)), True), (2, ("missed", (0,)), False), (3, ("missed", (0,)), True), (3, ("clicks", ()), True)):
            other = night[:at] + (night[at][:2] + (harm,),) + night[at + 1:]
            self.assertEqual([is_night(FORM, REEL, other), is_mild_night(FORM, REEL, other)], [True, mild])
        self.assertIs(is_mild_night(FORM, (), ()), True)


class TestMadeNights(unittest.TestCase):
    """Promise 38: even_night, swayed and swayed_night."""

    def test_even_night(self):
        chance = random.Random(172)
        for form in FORMS + (SHORT,):
            reel = some_reel(chance, form, 6) if form != SHORT else ((9,), (), None)
            night = even_night(form, reel)
            self.assertEqual(night, tuple(None if slot is None else (steady((0, 1), (form[0][0], 1), sum(slot)), ((0, 1),) * (len(slot) + 1),
                                                                     ("missed", ())) for slot in reel))
            self.assertEqual([is_night(form, reel, night), is_mild_night(form, reel, night)], [True, True])
        self.assertEqual(even_night(FORM, ()), ())

    def swayed_by_walking(self, bounds, cells, high, by):
        """From cell up, and down again, one drift at a time."""
        ride, height, way = [], 0, 1
        for cell in range(cells + by):
            if cell >= by:
                ride.append(told(bounds[0] + plain.fraction(bounds[1]) * height))
            if height == high:
                way = -1
            elif height == 0:
                way = 1
            if high > 0:
                height += 1 if height == 0 else way
        return tuple(ride)

    def test_swayed(self):
        for bounds in (FORM[0], (9, (0, 1), (0, 1), 1, 2, 1), (7, (7, 3), (1, 2), 2, 2, 1)):
            for cells in (0, 1, 2, 9, 23):
                for high in (0, 1, 2, 5, 40):
                    for by in (0, 1, 3, 7, 11):
                        ride = swayed(bounds, cells, high, by)
                        self.assertEqual(ride, self.swayed_by_walking(bounds, cells, high, by))
                        self.assertTrue(plain.is_ride(bounds, ride))
                        self.assertEqual(len(ride), cells)

    def test_swayed_touches_both_ends(self):
        ride = swayed((10, (1, 1), (0, 1), 1, 2, 1), 30, 4, 0)
        self.assertEqual([part[0] for part in ride[:10]], [10, 11, 12, 13, 14, 13, 12, 11, 10, 11])
        self.assertEqual(swayed((10, (1, 3), (0, 1), 1, 2, 1), 4, 3, 2), ((32, 3), (11, 1), (32, 3), (31, 3)))
        self.assertEqual(swayed((10, (1, 3), (0, 1), 1, 2, 1), 3, 0, 10 ** 9), ((10, 1),) * 3)
        self.assertEqual(swayed((10, (1, 1), (0, 1), 1, 2, 1), 2, 10 ** 6, 10 ** 6), ((10 ** 6 + 10, 1), (10 ** 6 + 9, 1)))

    def test_swayed_night(self):
        chance = random.Random(173)
        for form in FORMS:
            shift = plain.fraction(form[0][2])
            for _ in range(6):
                reel, high, by = some_reel(chance, form, 5), chance.randint(0, 5), chance.randint(0, 9)
                night = swayed_night(form, reel, high, by)
                for slot, one in zip(reel, night):
                    if slot is not None:
                        shifts = tuple(told(shift * (-1) ** mark) for mark in range(len(slot) + 1))
                        self.assertEqual(one, (((0, 1), swayed(form[0], sum(slot), high, by)), shifts, ("missed", ())))
                self.assertEqual([one is None for one in night], [slot is None for slot in reel])
                self.assertEqual([is_night(form, reel, night), is_mild_night(form, reel, night)], [True, True])

    def test_shifts(self):
        one = swayed_night(FORM, (FULL,), 3, 1)[0]
        self.assertEqual(one[1], ((3, 2), (-3, 2), (3, 2), (-3, 2), (3, 2), (-3, 2), (3, 2)))
        self.assertEqual(swayed_night(FORM, ((),), 3, 1), ((((0, 1), ()), ((3, 2),), ("missed", ())),))
        self.assertEqual(full_rows(FORM)[0][:2], lead_of(FORM[0]))
        self.assertEqual(Fraction(3, 2), plain.fraction(FORM[0][2]))


if __name__ == "__main__":
    unittest.main()

import random
import time
import unittest

from flutterheld.counts import many_bodies
from flutterheld.errors import TooMany
from flutterheld.harms import harmed, least_watchful_cell
from flutterheld.heard import fits_none, heard_reel, heard_reel_back, heard_slot, rows_told, whole_slots
from flutterheld.hearings import heard_back, hearing_of
from flutterheld.nights import even_night, is_mild_night, swayed_night
from flutterheld.ranks import body_at
from flutterheld.sure import is_sure
from flutterheld.tellings import do_fit
from tests import plain
from tests.test_nights import FORM, FULL, REEL, some_night, some_reel
from tests.test_reels import full_rows


def watchful_forms():
    """FORMATS with the least cell that is watchful, and few BODIES."""
    for drift, shift in (((0, 1), (0, 1)), ((1, 2), (3, 2)), ((1, 1), (0, 1)), ((0, 1), (1, 3)), ((1, 5), (5, 2))):
        for lo, most, lead, data in ((2, 3, 1, 7), (2, 3, 2, 9), (3, 4, 1, 11), (3, 5, 2, 12), (2, 2, 1, 6)):
            yield ((least_watchful_cell(drift, shift, lo, most, lead), drift, shift, lo, most, lead), data, 2, 1)


class TestHeard(unittest.TestCase):
    """Promise 39: what is heard."""

    def test_by_their_words(self):
        chance = random.Random(180)
        for form in watchful_forms():
            reel = some_reel(chance, form, 6)
            night = some_night(chance, form, reel, 0.5)
            heard = []
            for slot, one in zip(reel, night):
                if slot is None:
                    heard.append(())
                    continue
                hearing = harmed(hearing_of(one[0], slot, one[1]), one[2])
                self.assertEqual(heard_slot(slot, one), hearing)
                heard.append(hearing)
            self.assertEqual(heard_reel(reel, night), tuple(heard))
            self.assertEqual(heard_reel_back(reel, night), tuple(heard_back(hearing) for hearing in reversed(heard)))
        self.assertEqual([heard_reel((), ()), heard_reel_back((), ())], [(), ()])

    def test_harms(self):
        one = even_night(FORM, (FULL,))[0]
        moments = heard_slot(FULL, one)
        self.assertEqual(heard_slot(FULL, one[:2] + (("missed", (0, 6)),)), moments[1:-1])
        self.assertEqual(heard_slot(FULL, one[:2] + (("missed", tuple(range(7))),)), ())
        self.assertEqual(heard_slot(FULL, one[:2] + (("clicks", ((-1, 1), (66, 1))),)), ((-1, 1),) + moments[:2] + moments[1:])
        self.assertEqual(heard_reel((FULL, None), (one, None)), (moments, ()))
        self.assertEqual(heard_reel_back((FULL, None), (one, None)), ((), heard_back(moments)))


class TestSure(unittest.TestCase):
    """Promise 40, of 1 and 6: what is sure."""

    def test_the_main_guarantee(self):
        chance = random.Random(181)
        wholes = others = 0
        for form in watchful_forms():
            for _ in range(6):
                reel = some_reel(chance, form, 6)
                night = some_night(chance, form, reel, 0.4)
                self.assertTrue(is_mild_night(form, reel, night))
                whole = whole_slots(form, reel, night)
                self.assertEqual(whole, tuple(at for at, slot in enumerate(reel) if slot in full_rows(form) and night[at][2][1] == ()))
                self.assertEqual(rows_told(form, reel, night), tuple(slot if at in whole else None for at, slot in enumerate(reel)))
                wholes, others = wholes + len(whole), others + len(reel) - len(whole)
        self.assertGreater(min(wholes, others), 100)

    def test_swayed_nights(self):
        for form in watchful_forms():
            reel = tuple(full_rows(form))[:6]
            for high, by in ((0, 0), (1, 0), (3, 2), (50, 0), (50, 40)):
                night = swayed_night(form, reel, high, by)
                self.assertEqual(rows_told(form, reel, night), reel)
                self.assertEqual(whole_slots(form, reel, night), tuple(range(len(reel))))

    def test_whole_slots(self):
        night = even_night(FORM, REEL)
        self.assertEqual(whole_slots(FORM, REEL, night), (0,))
        for harm, whole in ((("clicks", ()), (0,)), (("missed", (3,)), ()), (("clicks", ((1, 1),)), ())):
            other = (night[0][:2] + (harm,),) + night[1:]
            self.assertEqual(whole_slots(FORM, REEL, other), whole)
        self.assertEqual(whole_slots(FORM, (FULL, FULL, FULL[:-1], FULL), (night[0],) * 4), (0, 1, 3))
        self.assertEqual([whole_slots(FORM, (), ()), rows_told(FORM, (), ())], [(), ()])

    def test_fits_none_is_told_by_the_harm(self):
        chance = random.Random(182)
        found = []
        for form in watchful_forms():
            for _ in range(4):
                slot = chance.choice(full_rows(form))
                one = some_night(chance, form, (slot,), 0.6)[0]
                self.assertIs(fits_none(form, slot, one), one[2][1] != ())
                heard = heard_slot(slot, one)
                self.assertIs(fits_none(form, slot, one), not any(do_fit(form[0], row, heard) for row in full_rows(form)))
                found.append(one[2][1] != ())
        self.assertGreater(min(found.count(True), found.count(False)), 20)

    def test_what_is_not_mild(self):
        # Without the LEAD's and the TAIL's ends another FULL ROW may be heard: bounds are not watchful here, either.
        form = ((9, (0, 1), (0, 1), 1, 2, 1), 4, 2, 1)
        self.assertTrue(is_sure(form[0]))
        slot = (2, 1, 1, 2, 2)
        one = even_night(form, (slot,))[0][:2] + (("missed", (2,)),)
        self.assertIs(fits_none(form, slot, one), False)
        self.assertEqual(rows_told(form, (slot,), (one,)), ((2, 2, 2, 2),))

    def test_just_300_bodies(self):
        for lo, most, data, many in ((9, 10, 127, 300), (10, 13, 73, 300), (8, 14, 44, 301), (2, 3, 240, None)):
            form = ((9, (0, 1), (0, 1), lo, most, 1), data, 2, 1)
            self.assertIn(many, (None, many_bodies(form[0], data)))
            slot = (most,) + body_at(form[0], data, 70) + (most,)
            one = even_night(form, (slot,))[0]
            if many == 300:
                self.assertIs(fits_none(form, slot, one), False)
                self.assertIs(fits_none(form, slot, one[:2] + (("missed", (3,)),)), True)
                continue
            with self.assertRaises(TooMany) as caught:
                fits_none(form, slot, one)
            self.assertEqual(caught.exception.most, 300)

    def test_in_time(self):
        start = time.process_time()
        drift, shift = (999983, 999979), (100003, 99991)
        form = ((least_watchful_cell(drift, shift, 13, 14, 8), drift, shift, 13, 14, 8), 236, 2, 1)
        self.assertEqual(many_bodies(form[0], 236), 289)
        slot = full_rows(form)[140]
        for night in (even_night(form, (slot,)), swayed_night(form, (slot,), 7, 2)):
            self.assertIs(fits_none(form, slot, night[0]), False)
        self.assertLess(time.process_time() - start, 10)


if __name__ == "__main__":
    unittest.main()

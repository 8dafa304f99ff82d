import itertools
import random
import unittest
from fractions import Fraction

from flutterheld.forms import is_full, is_harm
from flutterheld.harms import (gap_margin, harmed, is_harm_of, is_mild, is_watchful, least_watchful_cell,
                               least_watchful_lead)
from flutterheld.hearings import hearing_of
from flutterheld.pull import pull
from flutterheld.sure import is_sure
from tests.plain import bounds_of_all_sorts, fraction, nearly, some_row, some_telling, told

BOUNDS = (22, (1, 2), (3, 2), 2, 3, 2)
FORM = (BOUNDS, 5, 2, 1)
FULL = (3, 3, 2, 3, 3, 3)
HEARING = ((0, 1), (66, 1), (132, 1), (176, 1), (242, 1), (308, 1), (374, 1))


class TestWatchful(unittest.TestCase):
    """Promise 20, of 6: WATCHFUL BOUNDS."""

    def test_gap_margin(self):
        for bounds in bounds_of_all_sorts((1, 2)):
            for cell in (1, 20, 10 ** 6):
                _, drift, shift, lo, most, _ = bounds
                plain = ((2 * lo - most) * cell - 4 * fraction(shift) - most * fraction(pull(bounds))
                         - fraction(drift) * most * (most + 1))
                self.assertEqual(gap_margin((cell,) + bounds[1:]), told(plain))

    def test_watchful_just_by_three(self):
        found = []
        for bounds in bounds_of_all_sorts((1, 2)):
            for cell in (1, 3, 10, 40, 200):
                given = (cell,) + bounds[1:]
                plain = is_sure(given) and 2 * given[3] > given[4] and gap_margin(given)[0] > 0
                self.assertIs(is_watchful(given), plain, given)
                found.append((is_sure(given), 2 * given[3] > given[4], gap_margin(given)[0] > 0))
        # Each of the three is what is lacking somewhere (a gap_margin above 0 asks for 2 * lo above K by itself).
        self.assertTrue({(True, True, True), (True, True, False), (True, False, False)} <= set(found))

    def test_sure_is_asked_for_itself(self):
        # 2 * lo - K is 14 here: the gap is noticed long before RUNS are told apart.
        bounds = (2, (0, 1), (1, 1), 15, 16, 1)
        self.assertTrue(gap_margin(bounds)[0] > 0)
        self.assertEqual([is_sure(bounds), is_watchful(bounds)], [False, False])

    def test_a_gap_margin_of_none_is_not_watchful(self):
        bounds = (8, (0, 1), (1, 1), 2, 3, 1)
        self.assertEqual([gap_margin(bounds), is_sure(bounds), is_watchful(bounds), is_watchful((9,) + bounds[1:])],
                         [(0, 1), True, False, True])

    def test_2_lo_that_is_k_is_not_watchful(self):
        self.assertEqual([is_watchful((10 ** 6, (0, 1), (0, 1), 1, 2, 8)), is_watchful((1, (0, 1), (0, 1), 2, 3, 1))], [False, True])

    def test_least_watchful_cell(self):
        for bounds in bounds_of_all_sorts((1, 2, 8)) + [(1, (1, 2), (7, 2), 15, 16, 1), (1, (0, 1), (9, 1), 15, 16, 2)]:
            cell = least_watchful_cell(*bounds[1:])
            if 2 * bounds[3] <= bounds[4]:
                self.assertIsNone(cell)
                continue
            self.assertTrue(is_watchful((cell,) + bounds[1:]), bounds)
            self.assertTrue(is_watchful((cell + 9,) + bounds[1:]), bounds)
            self.assertFalse(cell > 1 and is_watchful((cell - 1,) + bounds[1:]), bounds)

    def test_least_watchful_lead_by_trying(self):
        found = set()
        for bounds in bounds_of_all_sorts((1,)) + [(1, (1, 9), (5, 2), 15, 16, 1), (1, (0, 1), (5, 2), 15, 16, 1)]:
            for cell in (1, 4, 9, 11, 15, 30, 100):
                given = (cell,) + bounds[1:5]
                plain = next((lead for lead in range(1, 40) if is_watchful(given + (lead,))), None)
                self.assertEqual(least_watchful_lead(*given), plain, given)
                found.add(plain)
        self.assertGreater(len(found), 3)

    def test_one_run_alone_is_not_watchful_by_itself(self):
        self.assertEqual([least_watchful_cell((0, 1), (1, 1), 1, 1, 1), least_watchful_lead(5, (0, 1), (1, 1), 1, 1),
                          least_watchful_lead(4, (0, 1), (1, 1), 1, 1)], [9, 5, None])

    def test_least_watchful_lead_is_far(self):
        given = (10 ** 6, (0, 1), told(Fraction(10 ** 12 - 2, 4 * 10 ** 6)), 2, 3)
        lead = least_watchful_lead(*given)
        self.assertGreater(lead, 10 ** 10)
        self.assertEqual([is_watchful(given + (lead,)), is_watchful(given + (lead - 1,))], [True, False])

    def test_least_watchful_lead_at_a_far_turn(self):
        drift, shift = (1, 999999999999), (10 ** 5, 1)
        lead = least_watchful_lead(400001, drift, shift, 2, 3)
        self.assertEqual([is_watchful((400001, drift, shift, 2, 3, lead)), is_watchful((400001, drift, shift, 2, 3, lead - 1))], [True, False])
        self.assertIsNone(least_watchful_lead(400000, drift, shift, 2, 3))


class TestHarmed(unittest.TestCase):
    """Promise 20: HARMS of a HEARING."""

    def test_is_harm_of(self):
        for harm in (("missed", ()), ("missed", (0, 6)), ("missed", (0, 6, 7)), ("clicks", ()), ("clicks", ((-5, 1), (400, 1)))):
            for thing in [harm] + list(nearly(harm)):
                plain = is_harm(thing) and not (thing[0] == "missed" and any(index >= 7 for index in thing[1]))
                self.assertIs(is_harm_of(HEARING, thing), plain, thing)

    def test_no_index_is_beyond(self):
        self.assertEqual([is_harm_of(HEARING[:at], ("missed", (2,))) for at in range(5)], [False, False, False, True, True])
        self.assertEqual([is_harm_of((), ("missed", ())), is_harm_of((), ("clicks", ((1, 1),)))], [True, True])

    def test_missed(self):
        for many in range(8):
            for lot in itertools.combinations(range(7), many):
                plain = tuple(moment for at, moment in enumerate(HEARING) if at not in lot)
                self.assertEqual(harmed(HEARING, ("missed", lot)), plain)

    def test_clicks(self):
        chance = random.Random(13)
        for _ in range(200):
            row = some_row(chance, BOUNDS, chance.randint(0, 6))
            telling = some_telling(chance, BOUNDS, sum(row))
            heard = hearing_of(telling, row, ((0, 1),) * (len(row) + 1))
            clicks = {told(Fraction(chance.randint(-200, 800), chance.randint(1, 5))) for _ in range(chance.randint(0, 5))}
            clicks |= {heard[0]}
            clicks = tuple(sorted(clicks, key=fraction))
            self.assertEqual(harmed(heard, ("clicks", clicks)), tuple(sorted(heard + clicks, key=fraction)))

    def test_a_click_at_a_marks_own_moment_is_heard_as_well(self):
        self.assertEqual(harmed(HEARING[:2], ("clicks", ((0, 1), (66, 1)))), ((0, 1), (0, 1), (66, 1), (66, 1)))
        self.assertEqual(harmed((), ("clicks", ((0, 1), (66, 1)))), ((0, 1), (66, 1)))

    def test_no_harm(self):
        for word in ("missed", "clicks"):
            self.assertEqual([harmed(HEARING, (word, ())), harmed((), (word, ()))], [HEARING, ()])


def plain_is_mild(form, slot, hearing, thing):
    """As promise 2 tells it."""
    lead, marks = form[0][5], len(slot) + 1
    if not is_harm(thing) or thing[0] == "missed" and any(index >= marks for index in thing[1]):
        return False
    word, some = thing
    if word == "missed":
        if marks <= lead or not set(some) & set(range(lead + 1)):
            return True
        return is_full(form, slot) and not set(some) & set(range(marks)[-lead - 1:])
    if not some:
        return True
    ahead = [fraction(moment) for moment in some]
    return is_full(form, slot) and (min(ahead) > fraction(hearing[lead]) or max(ahead) < fraction(hearing[marks - 1 - lead]))


class TestMild(unittest.TestCase):
    """Promise 20, and MILD of 2."""

    def lots(self, marks):
        for many in range(marks + 1):
            for lot in itertools.combinations(range(marks), many):
                yield ("missed", lot)
        yield ("missed", (marks,))
        yield ("missed", (0, marks))

    def clicks(self, hearing):
        moments = [(-5, 1), (1000, 1)] + [told(fraction(moment) + nudge) for moment in hearing for nudge in (Fraction(-1, 3), 0, Fraction(1, 3))]
        for moment in moments:
            yield ("clicks", (moment,))
        for one, other in itertools.product(moments[::2], moments[1::2]):
            if fraction(one) < fraction(other):
                yield ("clicks", (one, other))
        yield ("clicks", ())

    def test_all_missed_and_clicks_of_all_beginnings(self):
        for form in (FORM, ((22, (1, 2), (3, 2), 2, 3, 1), 4, 1, 0), ((22, (1, 2), (3, 2), 2, 3, 3), 2, 1, 0)):
            lead, data = form[0][5], form[1]
            body = {5: (2, 3), 4: (2, 2), 2: (2,)}[data]
            full = (3,) * lead + body + (3,) * lead
            whole = tuple((22 * sum(full[:at]) + at, 1) for at in range(len(full) + 1))
            found = []
            for runs in range(len(full) + 1):
                slot, hearing = full[:runs], whole[:runs + 1]
                for thing in list(self.lots(runs + 1)) + list(self.clicks(hearing)):
                    told_so = is_mild(form, slot, hearing, thing)
                    self.assertIs(told_so, plain_is_mild(form, slot, hearing, thing), (slot, hearing, thing))
                    found.append(told_so)
            self.assertEqual(set(found), {True, False})

    def test_a_short_beginning_may_miss_any(self):
        self.assertEqual([is_mild(FORM, (3,), HEARING[:2], ("missed", (0, 1))), is_mild(FORM, (), HEARING[:1], ("missed", (0,)))], [True, True])
        self.assertEqual([is_mild(FORM, (3, 3), HEARING[:3], ("missed", (at,))) for at in range(3)], [False] * 3)

    def test_the_tail_alone_is_enough_of_a_full_row(self):
        self.assertTrue(is_mild(FORM, FULL, HEARING, ("missed", (0, 1, 2, 3))))
        self.assertFalse(is_mild(FORM, FULL[:-1], HEARING[:-1], ("missed", (0,))))
        self.assertFalse(is_mild(FORM, FULL, HEARING, ("missed", (2, 4))))

    def test_clicks_are_mild_of_a_full_row_alone(self):
        self.assertTrue(is_mild(FORM, FULL, HEARING, ("clicks", ((133, 1),))))
        self.assertFalse(is_mild(FORM, FULL[:-1], HEARING[:-1], ("clicks", ((133, 1),))))
        self.assertFalse(is_mild(FORM, (3,), HEARING[:2], ("clicks", ((1, 1),))))

    def test_clicks_at_the_same_moment_as_the_two(self):
        # At 132 the LEAD ends, at 242 the TAIL begins.
        self.assertEqual([is_mild(FORM, FULL, HEARING, ("clicks", clicks)) for clicks in (
            ((132, 1), (242, 1)), ((132, 1), (241, 1)), ((133, 1), (242, 1)), ((-9, 1), (241, 1)), ((133, 1), (999, 1)),
            ((131, 1), (243, 1)))], [False, True, True, True, True, False])

    def test_of_any_value(self):
        for harm in (("missed", (3,)), ("missed", ()), ("clicks", ((133, 1), (400, 1)))):
            for thing in nearly(harm):
                self.assertIs(is_mild(FORM, FULL, HEARING, thing), plain_is_mild(FORM, FULL, HEARING, thing), thing)
                self.assertIs(type(is_mild(FORM, (), HEARING[:1], thing)), bool)


if __name__ == "__main__":
    unittest.main()

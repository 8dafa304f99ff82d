import itertools
import random
import unittest
from fractions import Fraction

from flutterheld.errors import Early, TooMany, Wrong
from flutterheld.forms import are_bounds, is_fraction, lead_of
from flutterheld.hearer import Hearer, led_rows_that_fit, rows_that_fit, told_run
from flutterheld.hearings import hearing_of
from flutterheld.rides import mark_moments, steady
from flutterheld.sure import is_sure, least_cell
from flutterheld.tellings import do_fit
from tests.plain import (ODD, bounds_of_all_sorts, deep, does_fit, greatest_shifts, heard_by_chance, nearly, some_row,
                         some_shifts, swayed, told)

BOUNDS = (4, (1, 2), (1, 4), 1, 2, 1)
HEARD = ((1, 1), (39, 4), (55, 4), (47, 2))
# The RUNS 1 and 2 may be heard alike: cells last from 1 to as long as they like.
LOOSE = (1, (100, 1), (0, 1), 1, 2, 2)


def plain_hearer(bounds, moments):
    """What a Hearer answers, its state, row and heard moments behind each: each time by all that was heard."""
    lead = bounds[5]
    row, heard, state = (), (), "lead"
    for moment in moments:
        if state in ("harm", "unsure"):
            yield state, state, row, heard
            continue
        asked = heard + (moment,)
        if len(asked) <= lead + 1:
            runs = [lead_of(bounds)[:len(asked) - 1]]
        else:
            runs = [row + (run,) for run in range(bounds[3], bounds[4] + 1)]
        fitting = [other for other in runs if do_fit(bounds, other, asked)]
        if len(fitting) == 1:
            row, heard = fitting[0], asked
            state = "lead" if len(heard) <= lead + 1 else "runs"
            yield (None if state == "lead" else row[-1]), state, row, heard
        else:
            state = "unsure" if fitting else "harm"
            yield state, state, row, heard


def hear_all(bounds, moments):
    hearer = Hearer(bounds)
    for moment in moments:
        yield hearer.hear(moment), hearer.state(), hearer.row(), hearer.heard()


class TestHearer(unittest.TestCase):
    """Promise 24: heard one by one."""

    def some(self, many):
        chance = random.Random(40)
        for _ in range(many):
            bounds = (chance.choice((1, 3, 8, 30)),) + chance.choice(bounds_of_all_sorts((1, 2, 3)))[1:]
            row = lead_of(bounds)[:chance.choice((1, 2, 9))] + some_row(chance, bounds, chance.randint(0, 5))
            yield chance, bounds, row, heard_by_chance(chance, bounds, row)

    def test_as_by_all_that_was_heard(self):
        found = []
        for _, bounds, _, hearing in self.some(500):
            answers = list(hear_all(bounds, hearing))
            self.assertEqual(answers, list(plain_hearer(bounds, hearing)), (bounds, hearing))
            found += [answer[1] for answer in answers]
        self.assertEqual(set(found), {"lead", "runs", "harm", "unsure"})
        self.assertGreater(min(found.count(state) for state in set(found)), 100)

    def test_at_first(self):
        hearer = Hearer(BOUNDS)
        self.assertEqual([hearer.state(), hearer.row(), hearer.heard()], ["lead", (), ()])

    def test_the_first_p_and_one(self):
        for lead in (1, 2, 4):
            bounds = (22, (1, 2), (3, 2), 2, 3, lead)
            row = lead_of(bounds) + (2, 3)
            moments = mark_moments(steady((-5, 1), (22, 1), sum(row)), row)
            answers = list(hear_all(bounds, moments))
            self.assertEqual([answer[0] for answer in answers], [None] * (lead + 1) + [2, 3])
            self.assertEqual([answer[1] for answer in answers], ["lead"] * (lead + 1) + ["runs"] * 2)
            self.assertEqual([answer[2] for answer in answers], [row[:at] for at in range(len(row) + 1)])
            self.assertEqual([answer[3] for answer in answers], [moments[:at + 1] for at in range(len(moments))])

    def test_a_harm_within_the_lead(self):
        for moments, heard in ((((0, 1), (4, 1)), 1), (((0, 1), (8, 1), (12, 1)), 2)):
            # A RUN of 1 where the LEAD has one of 2.
            hearer = Hearer((4, (1, 2), (1, 4), 1, 2, 2))
            answers = [hearer.hear(moment) for moment in moments]
            self.assertEqual(answers, [None] * heard + ["harm"])
            self.assertEqual([hearer.state(), hearer.row(), hearer.heard()], ["harm", (2,) * (heard - 1), moments[:heard]])
            self.assertEqual([hearer.hear((20, 1)), hearer.hear((28, 1)), hearer.heard()], ["harm", "harm", moments[:heard]])

    def test_unsure(self):
        hearer = Hearer(LOOSE)
        self.assertEqual([hearer.hear((at, 1)) for at in (0, 10, 20)], [None] * 3)
        self.assertEqual([hearer.state(), hearer.hear((30, 1)), hearer.state(), hearer.hear((31, 1))], ["lead", "unsure", "unsure", "unsure"])
        self.assertEqual([hearer.row(), hearer.heard()], [(2, 2), ((0, 1), (10, 1), (20, 1))])
        # One cell alone lasts as little as 1.
        self.assertEqual([answer[0] for answer in hear_all(LOOSE, ((0, 1), (10, 1), (20, 1), (21, 1), (22, 1), (30, 1)))],
                         [None, None, None, 1, 1, "unsure"])

    def test_early(self):
        hearer = Hearer(BOUNDS)
        for moment in HEARD[:3]:
            hearer.hear(moment)
        for early in ((13, 1), (-5, 1), (54999, 4000)):
            twin = hearer.twin()
            with self.assertRaises(Early) as caught:
                hearer.hear(early)
            self.assertIs(caught.exception.moment, early)
            self.assertEqual(hearer, twin)
        self.assertEqual([hearer.hear(HEARD[3]), hearer.row()], [2, (2, 1, 2)])

    def test_early_is_asked_of_the_last_moment_that_did_not_raise(self):
        hearer = Hearer(BOUNDS)
        hearer.hear((10, 1))
        with self.assertRaises(Early):
            hearer.hear((9, 1))
        self.assertEqual(hearer.hear((19, 1)), None)
        with self.assertRaises(Wrong):
            hearer.hear((2, 2))
        with self.assertRaises(Early):
            hearer.hear((18, 1))

    def test_early_behind_a_harm_and_behind_unsure(self):
        for bounds, moments, word in ((BOUNDS, ((0, 1), (1, 1)), "harm"), (LOOSE, ((0, 1), (10, 1), (20, 1), (30, 1)), "unsure")):
            hearer = Hearer(bounds)
            answers = [hearer.hear(moment) for moment in moments]
            self.assertEqual(answers[-1], word)
            self.assertEqual([hearer.hear((40, 1)), hearer.hear((40, 1))], [word, word])
            with self.assertRaises(Early) as caught:
                hearer.hear((39, 1))
            self.assertEqual(caught.exception.moment, (39, 1))
            # A moment behind the last one that fits, but ahead of the last one handed in, is early, too.
            self.assertEqual(hearer.hear((40, 1)), word)

    def test_the_same_moment_again(self):
        hearer = Hearer(BOUNDS)
        self.assertEqual([hearer.hear((0, 1)), hearer.hear((0, 1)), hearer.hear((0, 1))], [None, "harm", "harm"])
        hearer = Hearer((1, (0, 1), (5, 1), 1, 1, 1))
        self.assertEqual([hearer.hear((0, 1)), hearer.hear((0, 1)), hearer.hear((0, 1))], [None, None, 1])

    def test_wrong_bounds(self):
        for thing in list(nearly(BOUNDS)) + list(ODD) + [deep(20), HEARD, Hearer(BOUNDS)]:
            if are_bounds(thing):
                self.assertEqual(Hearer(thing).row(), ())
                continue
            with self.assertRaises(Wrong) as caught:
                Hearer(thing)
            self.assertEqual(caught.exception.place, 0)

    def test_bounds_far_beyond_the_limits(self):
        hearer = Hearer((10 ** 39, (0, 1), (1, 10 ** 39), 10 ** 38, 10 ** 39, 10 ** 39))
        self.assertEqual([hearer.hear((0, 1)), hearer.hear((1, 1)), hearer.row(), hearer.state()], [None, "harm", (), "harm"])

    def test_wrong_moments(self):
        hearer = Hearer(BOUNDS)
        hearer.hear((100, 1))
        for thing in list(nearly((100, 1))) + list(ODD) + [deep(20), hearer, 5, (200, 2), (True, 1), [200, 1]]:
            if is_fraction(thing):
                continue
            twin = hearer.twin()
            with self.assertRaises(Wrong) as caught:
                hearer.hear(thing)
            self.assertEqual(caught.exception.place, 0)
            self.assertEqual(hearer, twin)
        # Behind a harm as well.
        hearer.hear((101, 1))
        with self.assertRaises(Wrong):
            hearer.hear(101)

    def test_twins(self):
        for chance, bounds, _, hearing in self.some(60):
            till = chance.randint(0, len(hearing))
            hearer = Hearer(bounds)
            for moment in hearing[:till]:
                hearer.hear(moment)
            twin, other = hearer.twin(), hearer.twin()
            self.assertTrue(hearer == twin and twin == hearer and not hearer != twin)
            self.assertIsNot(hearer, twin)
            answers = [hearer.hear(moment) for moment in hearing[till:]]
            self.assertEqual(twin, other)
            self.assertEqual([twin.hear(moment) for moment in hearing[till:]], answers)
            self.assertEqual(twin, hearer)
            if other.heard() != hearer.heard():
                self.assertNotEqual(other, hearer)

    def test_a_twin_knows_what_was_handed_in_last(self):
        hearer = Hearer(BOUNDS)
        for at in (0, 1, 50):
            hearer.hear((at, 1))
        with self.assertRaises(Early):
            hearer.twin().hear((49, 1))

    def test_equal(self):
        one, other = Hearer(BOUNDS), Hearer(BOUNDS)
        self.assertEqual(one, other)
        self.assertNotEqual(one, Hearer((5,) + BOUNDS[1:]))
        one.hear((0, 1))
        self.assertNotEqual(one, other)
        other.hear((1, 1))
        self.assertNotEqual(one, other)
        other = Hearer(BOUNDS)
        other.hear((0, 1))
        self.assertEqual(one, other)
        one.hear((1, 1))
        # The row and the heard moments are the same, the state is not.
        self.assertEqual([one.row(), one.heard()], [other.row(), other.heard()])
        self.assertNotEqual(one, other)
        # What comes behind a harm is no part of it.
        other.hear((2, 1))
        self.assertEqual(one, other)
        for thing in ODD + (BOUNDS, "harm"):
            self.assertIs(one == thing, False)
            self.assertIs(one != thing, True)

    def test_one_row_fits_but_the_moments_are_others(self):
        one, other = Hearer(BOUNDS), Hearer(BOUNDS)
        for at in (0, 8):
            one.hear((at, 1))
            other.hear((at * 2 + 1, 2))
        self.assertEqual(one.row(), other.row())
        self.assertNotEqual(one, other)

    def test_harm_and_unsure_are_unlike(self):
        bounds = (1, (0, 1), (3, 1), 1, 2, 1)
        one, other = Hearer(bounds), Hearer(bounds)
        for at in (0, 8):
            one.hear((at, 1))
            other.hear((at, 1))
        self.assertEqual([one.hear((16, 1)), other.hear((99, 1))], ["unsure", "harm"])
        self.assertEqual([one.row(), one.heard()], [other.row(), other.heard()])
        self.assertNotEqual(one, other)


class TestAtOnce(unittest.TestCase):
    """Promises 24 and 5: with SURE BOUNDS each RUN is told as soon as its mark is heard."""

    def test_the_least_cell_swaying_rides_and_the_greatest_shifts(self):
        chance = random.Random(41)
        for bounds in bounds_of_all_sorts((1, 2)):
            given = (least_cell(*bounds[1:]),) + bounds[1:]
            self.assertTrue(is_sure(given))
            row = lead_of(given) + some_row(chance, given, 9)
            high, by, first = chance.choice(((0, 0, 1), (1, 1, 1), (2, 0, -1), (4, 3, 1), (7, 2, -1)))
            for shifts in (greatest_shifts(given, len(row) + 1, first), some_shifts(chance, given, len(row) + 1)):
                hearing = hearing_of(((0, 1), swayed(given, sum(row), high, by)), row, shifts)
                hearer = Hearer(given)
                answers = [hearer.hear(moment) for moment in hearing]
                self.assertEqual(answers, [None] * (given[5] + 1) + list(row[given[5]:]), given)
                self.assertEqual([hearer.row(), hearer.heard()], [row, hearing])

    def test_a_cell_less_is_not_enough_somewhere(self):
        from flutterheld.slips import slip_of
        unsure = 0
        for bounds in bounds_of_all_sorts((1, 2)):
            cell = least_cell(*bounds[1:]) - 1
            if cell > 0 and not is_sure((cell,) + bounds[1:]):
                given = (cell,) + bounds[1:]
                hearer = Hearer(given)
                answers = [hearer.hear(moment) for moment in slip_of(given)[5]]
                self.assertEqual(answers[-1], "unsure", given)
                unsure += 1
        self.assertGreater(unsure, 60)


class TestRowsThatFit(unittest.TestCase):
    """Promises 24 and 7: all ROWS that FIT."""

    def all_rows(self, bounds, runs):
        return itertools.product(range(bounds[3], bounds[4] + 1), repeat=runs)

    def test_against_all_rows(self):
        chance = random.Random(42)
        found = []
        for _ in range(200):
            bounds = (chance.choice((1, 4, 9)),) + chance.choice(bounds_of_all_sorts((1, 2, 3)))[1:]
            hearing = heard_by_chance(chance, bounds, some_row(chance, bounds, chance.randint(0, 4)))
            plain = [row for row in self.all_rows(bounds, len(hearing) - 1) if do_fit(bounds, row, hearing)]
            self.assertEqual(rows_that_fit(bounds, hearing), plain, (bounds, hearing))
            lead = lead_of(bounds)
            led = [row for row in plain if row[:len(lead)] == lead[:len(row)]]
            self.assertEqual(led_rows_that_fit(bounds, hearing), led, (bounds, hearing))
            found.append((min(len(plain), 3), min(len(led), 2)))
        self.assertGreater(len(set(found)), 6)

    def test_against_all_tellings_at_once(self):
        bounds = (2, (1, 1), (1, 2), 1, 2, 1)
        for hearing in (((0, 1), (4, 1), (7, 1)), ((0, 1), (3, 1), (9, 1)), ((0, 1), (1, 1), (9, 1))):
            plain = [row for row in self.all_rows(bounds, 2) if does_fit(bounds, row, hearing)]
            self.assertEqual(rows_that_fit(bounds, hearing), plain)

    def test_none_and_one_item(self):
        self.assertEqual([rows_that_fit(BOUNDS, ()), led_rows_that_fit(BOUNDS, ())], [[], []])
        self.assertEqual([rows_that_fit(BOUNDS, HEARD[:1]), led_rows_that_fit(BOUNDS, HEARD[:1])], [[()], [()]])

    def test_the_begin_of_the_lead(self):
        bounds = LOOSE[:5] + (3,)
        hearing = ((0, 1), (10, 1), (20, 1), (30, 1), (40, 1))
        self.assertEqual([led_rows_that_fit(bounds, hearing[:many]) for many in range(1, 6)],
                         [[()], [(2,)], [(2, 2)], [(2, 2, 2)], [(2, 2, 2, 1), (2, 2, 2, 2)]])
        self.assertEqual(rows_that_fit(bounds, hearing[:3]), [(1, 1), (1, 2), (2, 1), (2, 2)])

    def test_just_200_rows(self):
        # Without shifts, and with any drift, a mark after n ticks may be 1 to n cells further.
        bounds = (1, (1000, 1), (0, 1), 1, 67, 1)
        moments = {"just": (0, 10, 15, 19), "few": (0, 67, 69), "more": (0, 67, 70), "far": (0, 10, 15, 20)}
        hearings = {name: tuple((moment, 1) for moment in some) for name, some in moments.items()}
        self.assertEqual([len(rows_that_fit(bounds, hearings[name])) for name in ("just", "few")], [200, 134])
        for name in ("more", "far"):
            with self.assertRaises(TooMany) as caught:
                rows_that_fit(bounds, hearings[name])
            self.assertEqual(caught.exception.most, 200)
        # Of the first items 201 and more FIT, though none does of all; 200 are let.
        with self.assertRaises(TooMany):
            rows_that_fit(bounds, hearings["more"] + ((70, 1),))
        self.assertEqual(rows_that_fit(bounds, hearings["just"] + ((19, 1),)), [])

    def test_200_of_the_led_rows_alone(self):
        bounds = (1, (1000, 1), (0, 1), 1, 16, 1)
        hearing = tuple((moment, 1) for moment in (0, 16, 26, 31, 35))
        with self.assertRaises(TooMany):
            rows_that_fit(bounds, hearing)
        rows = led_rows_that_fit(bounds, hearing)
        self.assertEqual([len(rows), rows[0], rows[-1], rows == sorted(set(rows))], [200, (16, 1, 1, 1), (16, 10, 5, 4), True])
        with self.assertRaises(TooMany) as caught:
            led_rows_that_fit(bounds, hearing[:4] + ((36, 1),))
        self.assertEqual(caught.exception.most, 200)

    def test_the_list_is_new(self):
        rows_that_fit(BOUNDS, HEARD).append(None)
        led_rows_that_fit(BOUNDS, HEARD).append(None)
        self.assertEqual([rows_that_fit(BOUNDS, HEARD), led_rows_that_fit(BOUNDS, HEARD)], [[(2, 1, 2)]] * 2)

    def test_told_run(self):
        chance = random.Random(43)
        found = set()
        for _ in range(250):
            bounds = (chance.choice((1, 4, 9)),) + chance.choice(bounds_of_all_sorts((1,)))[1:]
            row = some_row(chance, bounds, chance.randint(0, 4))
            hearing = heard_by_chance(chance, bounds, row + some_row(chance, bounds, 1))
            plain = tuple(run for run in range(bounds[3], bounds[4] + 1) if do_fit(bounds, row + (run,), hearing))
            self.assertEqual(told_run(bounds, row, hearing), plain, (bounds, row, hearing))
            found.add(len(plain))
        self.assertTrue({0, 1, 2, 3} <= found)

    def test_told_run_of_the_row_without_runs(self):
        self.assertEqual([told_run(BOUNDS, (), ((0, 1), told(by))) for by in (Fraction(7, 2), Fraction(34, 10), 8, 70)],
                         [(1,), (), (1, 2), (1, 2)])


if __name__ == "__main__":
    unittest.main()

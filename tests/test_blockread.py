import random
import time
import unittest
from fractions import Fraction

from flutterheld.blockread import noticed, read_slots, row_by_trying, row_told, told, told_turned
from flutterheld.blocks import full_row, width_of
from flutterheld.counts import all_bodies, many_bodies
from flutterheld.errors import TooMany
from flutterheld.forms import lead_of
from flutterheld.harms import harmed, is_mild, is_watchful, least_watchful_cell
from flutterheld.hearings import heard_back, hearing_of
from flutterheld.ranks import body_at
from flutterheld.rides import mark_moments, steady
from flutterheld.sure import is_sure, least_cell
from flutterheld.tellings import do_fit
from tests import plain
from tests.test_blocks import least_and_greatest, some_block

STILL = ((4, (0, 1), (0, 1), 1, 2, 1), 42, 1, 0)
ROOMY = ((60, (1, 2), (1, 1), 2, 3, 2), 80, 2, 1)
CLICK = ("clicks", ())


def sure_forms():
    """FORMATS with few BODIES, and with the least cell."""
    for drift, shift in (((0, 1), (0, 1)), ((1, 2), (3, 2)), ((1, 1), (0, 1)), ((0, 1), (1, 3)), ((7, 3), (5, 2))):
        for lo, most, lead, data in ((1, 2, 1, 6), (2, 3, 2, 9), (1, 3, 1, 5), (3, 4, 1, 11), (2, 2, 1, 6), (2, 5, 3, 12)):
            yield ((least_cell(drift, shift, lo, most, lead), drift, shift, lo, most, lead), data, 2, 1)


def full_rows(form):
    lead = lead_of(form[0])
    return [lead + body + lead for body in all_bodies(form[0], form[1])]


def calm(form, row):
    return mark_moments(steady((0, 1), (form[0][0], 1), sum(row)), row)


def some_hearing(chance, bounds, row):
    """What is heard of a row: cells and shifts by chance, or swaying and as great as they may be."""
    if chance.random() < 0.5:
        telling = plain.some_telling(chance, bounds, sum(row))
        return hearing_of(telling, row, plain.some_shifts(chance, bounds, len(row) + 1))
    telling = ((chance.randint(-9, 9), 1), plain.swayed(bounds, sum(row), chance.randint(0, 6), chance.randint(0, 6)))
    return hearing_of(telling, row, plain.greatest_shifts(bounds, len(row) + 1, chance.choice((1, -1))))


def spoiled(chance, bounds, hearing):
    """A HEARING that is cut, too long, moved at one item or from one on, or lacks one."""
    at = chance.randrange(len(hearing))
    by = Fraction(chance.choice((-2, -1, 1, 2, 3)) * bounds[0], chance.choice((1, 2, 3, 5, 50)))
    moved = [plain.fraction(moment) for moment in hearing]
    kind = chance.choice(("cut", "longer", "moved", "late", "lacking"))
    if kind == "cut":
        return hearing[:at]
    if kind == "longer":
        return hearing + (plain.told(moved[-1] + abs(by)),)
    if kind == "lacking":
        return hearing[:at] + hearing[at + 1:]
    till = at + 1 if kind == "moved" else len(moved)
    moved[at:till] = [moment + by for moment in moved[at:till]]
    return tuple(map(plain.told, sorted(moved)))


class TestRowTold(unittest.TestCase):
    """Promise 30, of 10: RUN by RUN as by trying all."""

    def test_as_by_trying(self):
        chance = random.Random(90)
        found = []
        for form in sure_forms():
            self.assertTrue(is_sure(form[0]))
            rows = full_rows(form)
            for _ in range(10):
                row = chance.choice(rows)
                hearing = chance.choice((calm(form, row), some_hearing(chance, form[0], row)))
                self.assertEqual([row_told(form, hearing), row_by_trying(form, hearing)], [row, row], (form, hearing))
                hearing = spoiled(chance, form[0], hearing)
                by_trying = row_by_trying(form, hearing)
                self.assertEqual(row_told(form, hearing), by_trying, (form, hearing))
                found.append(by_trying is None)
        self.assertGreater(min(found.count(True), found.count(False)), 20)

    def test_by_trying_all_by_hand(self):
        form = ((22, (1, 2), (3, 2), 2, 3, 2), 9, 2, 1)
        for row in full_rows(form):
            hearing = calm(form, row)
            self.assertEqual([other for other in full_rows(form) if do_fit(form[0], other, hearing)], [row])
            self.assertEqual([row_told(form, hearing), row_by_trying(form, hearing)], [row, row])

    def test_even_hearings(self):
        chance = random.Random(96)
        found = []
        for form in sure_forms():
            for _ in range(8):
                row = chance.choice(full_rows(form))
                lasting = max(Fraction(1, 9), form[0][0] + Fraction(chance.choice((-9, -3, -1, 0, 1, 4)), chance.choice((1, 7, 90))))
                begin = Fraction(chance.randint(-40, 40), 3)
                heard = [begin + lasting * sum(row[:at]) for at in range(len(row) + 1)]
                if chance.random() < 0.4:
                    heard[chance.randrange(len(heard))] += Fraction(chance.choice((-1, 1)) * form[0][0], chance.choice((1, 2, 9)))
                hearing = tuple(map(plain.told, sorted(heard)))
                by_trying = row_by_trying(form, hearing)
                self.assertEqual(row_told(form, hearing), by_trying, (form, hearing))
                found.append((by_trying is None, lasting < form[0][0]))
        self.assertEqual(len(set(found)), 4)

    def test_cells_that_are_too_short(self):
        # Evenly heard, but no cell may last so little; with no shift nothing else is left.
        form = ((10, (1, 2), (0, 1), 2, 3, 2), 9, 2, 1)
        self.assertTrue(is_sure(form[0]))
        row = full_rows(form)[1]
        for lasting, told_so in (((9, 1), None), ((999, 100), None), ((10, 1), row), ((1001, 100), row), ((10 ** 6, 1), row)):
            hearing = mark_moments(((5, 3), (lasting,) * sum(row)), row)
            self.assertEqual([row_told(form, hearing), row_by_trying(form, hearing)], [told_so, told_so])

    def test_fewer_and_more_items(self):
        form = ((22, (1, 2), (3, 2), 2, 3, 2), 5, 2, 1)
        hearing = calm(form, (3, 3, 2, 3, 3, 3))
        more = hearing + ((440, 1),)
        for thing in [hearing[:many] for many in range(7)] + [more, more + ((506, 1),), hearing[1:], hearing + (hearing[-1],)]:
            self.assertEqual([row_told(form, thing), row_by_trying(form, thing)], [None, None])

    def test_rows_that_are_led_but_not_full(self):
        form = ((22, (1, 2), (3, 2), 2, 3, 2), 5, 2, 1)
        for row in ((3, 3, 2, 3, 3, 2), (3, 3, 3, 3, 3, 3), (3, 3, 2, 2, 3, 3), (3, 2, 2, 3, 3, 3), (3, 3, 2, 3), (3, 3)):
            self.assertEqual([row_told(form, calm(form, row)), row_by_trying(form, calm(form, row))], [None, None])

    def test_a_format_without_bodies(self):
        form = ((22, (1, 2), (3, 2), 2, 3, 2), 1, 2, 1)
        self.assertEqual([row_told(form, calm(form, (3, 3, 3, 3))), row_by_trying(form, calm(form, (3, 3, 3, 3)))], [None, None])

    def test_just_500_bodies(self):
        still = (4, (0, 1), (0, 1))
        many = {data: many_bodies(still + (18, 25, 1), data) for data in (98,)}
        self.assertEqual([many[98], many_bodies(still + (5, 9, 1), 34)], [500, 501])
        form = (still + (18, 25, 1), 98, 1, 0)
        row = full_rows(form)[321]
        self.assertEqual(row_by_trying(form, calm(form, row)), row)
        for bounds, data in ((still + (5, 9, 1), 34), (still + (1, 2, 1), 240)):
            with self.assertRaises(TooMany) as caught:
                row_by_trying((bounds, data, 1, 0), ((0, 1),))
            self.assertEqual(caught.exception.most, 500)


class TestNoticed(unittest.TestCase):
    """Promise 30: the least n."""

    def plain(self, form, hearing):
        rows = full_rows(form)
        for n in range(1, len(hearing) + 1):
            begins = {row[:n - 1] for row in rows if len(row) >= n - 1}
            if not any(do_fit(form[0], row, hearing[:n]) for row in begins):
                return n
        return None

    def test_against_all_beginnings(self):
        chance = random.Random(91)
        found = set()
        for form in sure_forms():
            for _ in range(8):
                hearing = some_hearing(chance, form[0], chance.choice(full_rows(form)))
                self.assertIsNone(noticed(form, hearing))
                for at in range(len(hearing)):
                    self.assertIsNone(noticed(form, hearing[:at]))
                hearing = spoiled(chance, form[0], hearing)
                least = self.plain(form, hearing)
                self.assertEqual(noticed(form, hearing), least, (form, hearing))
                if least is not None:
                    self.assertIsNone(row_told(form, hearing))
                found.add(least)
        self.assertTrue({None, 2, 3, 4, 5} <= found)

    def test_what_fits_but_begins_no_full_row(self):
        form = ((22, (1, 2), (3, 2), 2, 3, 2), 5, 2, 1)
        for row, least in (((3, 3, 3, 3), 5), ((3, 3, 2, 2), 5), ((3, 3, 2, 3, 2), 6), ((3, 3, 2, 3, 3, 2), 7), ((3, 3, 2, 3, 3, 3, 3), 8),
                           ((3, 3, 2, 3, 3, 3, 2), 8), ((2, 3, 2, 3, 3, 3), 2), ((3, 2), 3), ((3, 3, 2, 3, 3, 3), None), ((3, 3), None), ((), None)):
            self.assertEqual(noticed(form, calm(form, row)), least, row)
        self.assertIsNone(noticed(form, ()))

    def test_what_is_left_for_the_body_is_no_sum_of_runs(self):
        form = ((40, (0, 1), (0, 1), 3, 4, 1), 11, 2, 1)
        self.assertEqual([noticed(form, calm(form, (4,) + row)) for row in ((3,), (4, 3), (4, 4), (4, 4, 3), (4, 4, 4), (3, 3, 3))],
                         [None, None, None, None, 5, 4])
        form = (form[0], 10, 2, 1)
        self.assertEqual([noticed(form, calm(form, (4,) + row)) for row in ((3, 3, 4, 4), (4, 4), (3, 4, 3, 4))], [None, 4, None])


class TestTold(unittest.TestCase):
    """Promise 30: BLOCKS, forward and backward."""

    def test_some(self):
        chance = random.Random(92)
        for form in (STILL, ROOMY):
            for block in [some_block(chance, form) for _ in range(12)] + list(least_and_greatest(form)):
                row = full_row(form, block)
                for hearing in (calm(form, row), some_hearing(chance, form[0], row)):
                    self.assertEqual([told(form, hearing), told_turned(form, heard_back(hearing))], [block, block])
                    hearing = spoiled(chance, form[0], hearing)
                    self.assertEqual(told_turned(form, heard_back(hearing)), told(form, hearing))

    def test_backward_is_not_forward(self):
        block = (0, 0, 0, False, 0, (5,))
        heard = calm(STILL, full_row(STILL, block))
        self.assertEqual([told(STILL, heard), told(STILL, heard_back(heard)) == block, told_turned(STILL, heard) == block,
                          told_turned(STILL, heard_back(heard))], [block, False, False, block])

    def test_lost(self):
        heard = calm(ROOMY, full_row(ROOMY, (1, 2, 3, True, 2, (4,) * width_of(ROOMY))))
        for thing in ((), heard[:1], heard[:-1], heard[1:], heard + ((10 ** 6, 1),), heard[:9] + heard[10:]):
            self.assertEqual([told(ROOMY, thing), told_turned(ROOMY, heard_back(thing))], [None, None])

    def test_a_full_row_of_no_block(self):
        bounds, data = STILL[:2]
        for number in (203423744, many_bodies(bounds, data) - 1):
            row = lead_of(bounds) + body_at(bounds, data, number) + lead_of(bounds)
            heard = calm(STILL, row)
            self.assertEqual([row_told(STILL, heard), told(STILL, heard), told_turned(STILL, heard_back(heard))], [row, None, None])

    def test_read_slots(self):
        block = (1, 2, 3, True, 0, (4,))
        heard = calm(STILL, full_row(STILL, block))
        self.assertEqual(read_slots(STILL, (heard, (), heard[:-1], heard)), (block, None, None, block))
        self.assertEqual([read_slots(STILL, ()), read_slots(STILL, ((),))], [(), (None,)])

    def test_long_full_rows(self):
        chance = random.Random(93)
        start = time.process_time()
        for lo, most, lead in ((1, 16, 8), (1, 2, 8), (2, 3, 8), (9, 16, 4)):
            drift, shift = (999983, 999979), (100003, 99991)
            form = ((least_cell(drift, shift, lo, most, lead), drift, shift, lo, most, lead), 240, 10, 5)
            block = some_block(chance, form)
            row = full_row(form, block)
            hearing = some_hearing(chance, form[0], row)
            self.assertEqual([told(form, hearing), told_turned(form, heard_back(hearing))], [block, block])
        self.assertLess(time.process_time() - start, 10)


class TestMildHarms(unittest.TestCase):
    """Promises 6, 8 and 30: with WATCHFUL BOUNDS of the least cell no MILD HARM makes another block."""

    def watchful_forms(self):
        for drift, shift in (((0, 1), (0, 1)), ((1, 2), (3, 2)), ((1, 1), (0, 1)), ((0, 1), (1, 3)), ((1, 5), (5, 2))):
            for lo, most, lead, data in ((2, 3, 1, 7), (2, 3, 2, 9), (3, 4, 1, 11), (3, 5, 2, 12), (2, 2, 1, 6)):
                yield ((least_watchful_cell(drift, shift, lo, most, lead), drift, shift, lo, most, lead), data, 2, 1)

    def some_harm(self, chance, form, slot, hearing):
        """A MILD HARM, by chance: marks missed ahead of the TAIL or behind the LEAD, or clicks there."""
        while True:
            if chance.random() < 0.5:
                lot = tuple(sorted(chance.sample(range(len(hearing)), chance.randint(0, min(4, len(hearing))))))
                harm = ("missed", lot)
            else:
                ends = (plain.fraction(hearing[0]) - 2 * form[0][0], plain.fraction(hearing[-1]) + 2 * form[0][0])
                moments = [ends[0] + (ends[1] - ends[0]) * Fraction(chance.randint(0, 60), 60) for _ in range(chance.randint(0, 2))]
                moments += [plain.fraction(chance.choice(hearing)) + chance.choice((0, Fraction(1, 9), -1)) for _ in range(chance.randint(0, 2))]
                harm = ("clicks", tuple(map(plain.told, sorted(set(moments)))))
            if is_mild(form, slot, hearing, harm):
                return harm

    def check(self, form, slot, hearing, harm):
        """What was written just if it is whole, and nothing harmed; otherwise nothing."""
        heard = harmed(hearing, harm)
        rows = full_rows(form)
        kept = slot if slot in rows and harm[1] == () else None
        self.assertEqual(row_told(form, heard), kept, (form, slot, hearing, harm))
        self.assertEqual([row for row in rows if do_fit(form[0], row, heard)], [kept] if kept else [], (form, slot, hearing, harm))
        return kept

    def test_some(self):
        chance = random.Random(94)
        found = set()
        for form in self.watchful_forms():
            self.assertTrue(is_watchful(form[0]))
            for _ in range(40):
                row = chance.choice(full_rows(form))
                slot = row[:chance.choice((len(row), len(row), chance.randint(0, len(row))))]
                hearing = some_hearing(chance, form[0], slot)
                harm = self.some_harm(chance, form, slot, hearing)
                kept = self.check(form, slot, hearing, harm)
                found.add((harm[0], harm[1] == (), slot == row, kept is None))
        self.assertEqual(len(found), 7, found)

    def test_all_single_harms_of_a_row(self):
        form = ((22, (1, 2), (3, 2), 2, 3, 2), 5, 2, 1)
        full = (3, 3, 2, 3, 3, 3)
        telling = ((0, 1), plain.swayed(form[0], sum(full), 5, 2))
        hearing = hearing_of(telling, full, plain.greatest_shifts(form[0], 7))
        mild = 0
        for many in range(len(full) + 1):
            slot, heard = full[:many], hearing[:many + 1]
            harms = [("missed", (at,)) for at in range(many + 1)] + [("missed", (at, at + 1)) for at in range(many)]
            harms += [("clicks", (plain.told(plain.fraction(moment) + by),)) for moment in heard for by in (-9, -1, 0, 1, 9, 33)]
            for harm in harms:
                if is_mild(form, slot, heard, harm):
                    mild += 1
                    self.check(form, slot, heard, harm)
        self.assertGreater(mild, 30)

    def test_blocks(self):
        chance = random.Random(95)
        bounds = (least_watchful_cell((1, 2), (1, 1), 2, 3, 2), (1, 2), (1, 1), 2, 3, 2)
        form = (bounds, 80, 2, 1)
        for _ in range(60):
            block = some_block(chance, form)
            row = full_row(form, block)
            slot = row[:chance.choice((len(row), len(row), chance.randint(0, len(row))))]
            hearing = some_hearing(chance, bounds, slot)
            harm = self.some_harm(chance, form, slot, hearing)
            heard = harmed(hearing, harm)
            kept = block if slot == row and harm[1] == () else None
            self.assertEqual([told(form, heard), told_turned(form, heard_back(heard))], [kept, kept], (slot, harm))


if __name__ == "__main__":
    unittest.main()

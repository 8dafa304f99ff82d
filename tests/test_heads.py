import random
import unittest

from flutterheld.blockread import read_slots
from flutterheld.blocks import block_of_row, full_row
from flutterheld.forms import lead_of
from flutterheld.heads import calm, calm_reel, false_places, lost_places, read_back
from flutterheld.hearings import heard_back, hearing_of
from flutterheld.ranks import body_at
from flutterheld.rides import mark_moments, steady
from tests import plain
from tests.plain_archive import LET_BY, SHORT, STILL, some_mild_harm, some_night_of
from tests.test_blocks import some_block
from flutterheld.harms import harmed


def some_reel(chance, form, many):
    """BEGINNINGS: FULL ROWS of BLOCKS, some cut short, and None."""
    reel = []
    for _ in range(many):
        row = full_row(form, some_block(chance, form))
        reel.append(chance.choice((None, row, row, row, row[:chance.randint(0, len(row))])))
    return tuple(reel)


def some_heard(chance, form, reel, share):
    """HEARINGS, a share of them under a MILD HARM."""
    heard = []
    for slot in reel:
        if slot is None:
            heard.append(())
            continue
        telling, shifts, harm = some_night_of(chance, form[0], slot, ("missed", ()))
        if chance.random() < share:
            harm = some_mild_harm(chance, form, slot, telling, shifts)
        heard.append(harmed(hearing_of(telling, slot, shifts), harm))
    return tuple(heard)


class TestCalm(unittest.TestCase):
    """Promise 34: calm."""

    def test_by_steady(self):
        chance = random.Random(130)
        for form in LET_BY + (STILL,):
            for slot in some_reel(chance, form, 12):
                if slot is not None:
                    telling = steady((0, 1), (form[0][0], 1), sum(slot))
                    self.assertEqual(calm(form, slot), mark_moments(telling, slot))
            self.assertEqual([calm(form, None), calm(form, ())], [(), ((0, 1),)])

    def test_reel(self):
        chance = random.Random(131)
        reel = some_reel(chance, SHORT, 9)
        self.assertEqual(calm_reel(SHORT, reel), tuple(calm(SHORT, slot) for slot in reel))
        self.assertEqual(calm_reel(SHORT, ()), ())

    def test_it_tells_what_stands_there(self):
        chance = random.Random(132)
        for form in LET_BY:
            reel = some_reel(chance, form, 12)
            blocks = [None if slot is None else block_of_row(form, slot) for slot in reel]
            self.assertEqual(read_slots(form, calm_reel(form, reel)), tuple(blocks))


class TestReadBack(unittest.TestCase):
    """Promise 34: a REEL tells the same whichever way it runs."""

    def test_as_forward(self):
        chance = random.Random(133)
        told = []
        for form in LET_BY + (STILL,):
            for _ in range(3):
                reel = some_reel(chance, form, 8)
                heard = some_heard(chance, form, reel, 0.3) if form in LET_BY else calm_reel(form, reel)
                back = tuple(heard_back(hearing) for hearing in reversed(heard))
                forward = read_slots(form, heard)
                self.assertEqual(read_back(form, back), forward)
                told += forward
        self.assertGreater(min(told.count(None), len(told) - told.count(None)), 20)
        self.assertEqual(read_back(SHORT, ()), ())

    def test_the_last_slot_first(self):
        blocks = [(0, 0, 0, True, place, (place,)) for place in range(3)]
        heard = calm_reel(SHORT, [full_row(SHORT, block) for block in blocks])
        back = tuple(heard_back(hearing) for hearing in heard)
        self.assertEqual([read_back(SHORT, back[::-1]), read_back(SHORT, back)], [tuple(blocks), tuple(blocks[::-1])])


class TestPlaces(unittest.TestCase):
    """Promise 34: what is lost, and what is false."""

    def test_by_their_words(self):
        chance = random.Random(134)
        found = []
        for form in LET_BY:
            for _ in range(3):
                reel = some_reel(chance, form, 8)
                # What is heard of another REEL, at some places.
                other = some_reel(chance, form, 8)
                mixed = tuple(chance.choice((one, one, two)) for one, two in zip(reel, other))
                heard = some_heard(chance, form, mixed, 0.3)
                told = read_slots(form, heard)
                stands = [None if slot is None else block_of_row(form, slot) for slot in reel]
                lost = tuple(at for at in range(8) if stands[at] is not None and told[at] is None)
                false = tuple(at for at in range(8) if told[at] is not None and told[at] != stands[at])
                self.assertEqual([lost_places(form, reel, heard), false_places(form, reel, heard)], [lost, false])
                found.append((lost != (), false != ()))
        self.assertGreater(len(set(found)), 2)

    def test_none_is_false_under_mild_harms(self):
        chance = random.Random(135)
        lost = 0
        for form in LET_BY:
            for _ in range(4):
                reel = some_reel(chance, form, 8)
                heard = some_heard(chance, form, reel, 0.5)
                self.assertEqual(false_places(form, reel, heard), ())
                lost += len(lost_places(form, reel, heard))
        self.assertGreater(lost, 10)

    def test_a_full_row_of_no_block_is_neither(self):
        row = lead_of(STILL[0]) + body_at(STILL[0], STILL[1], 64 * 256 * 64 * 2 * 3 * 97) + lead_of(STILL[0])
        self.assertTrue(plain.is_full(STILL, row))
        for heard in ((calm(STILL, row),), ((),)):
            self.assertEqual([lost_places(STILL, (row,), heard), false_places(STILL, (row,), heard)], [(), ()])

    def test_some(self):
        one, other = full_row(SHORT, (0, 0, 0, True, 0, (1,))), full_row(SHORT, (0, 0, 0, True, 0, (2,)))
        reel = (one, one, None, None, one[:-1], one[:-1], ())
        heard = calm_reel(SHORT, (one[:-1], other, None, one, one[:-1], one, one))
        self.assertEqual([lost_places(SHORT, reel, heard), false_places(SHORT, reel, heard)], [(0,), (1, 3, 5, 6)])
        self.assertEqual([lost_places(SHORT, (), ()), false_places(SHORT, (), ())], [(), ()])


if __name__ == "__main__":
    unittest.main()

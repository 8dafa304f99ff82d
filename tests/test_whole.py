import random
import unittest

from flutterheld.archive import Archive
from flutterheld.blockread import read_slots
from flutterheld.blocks import block_of_row, full_row
from flutterheld.deeds import blocks_of, deed_of
from flutterheld.epochs import due_reels, is_let_by, read_epoch
from flutterheld.errors import Cut, Full
from flutterheld.groups import restored, text_of
from flutterheld.harms import least_watchful_cell
from flutterheld.heads import false_places, read_back
from flutterheld.heard import heard_reel, heard_reel_back
from flutterheld.hearings import heard_back
from flutterheld.nights import is_mild_night, is_night, swayed_night
from flutterheld.reels import Deck
from tests.plain_archive import (BARE, LET_BY, SHORT, Stopped, led_by_hand, some_deed, some_mild_harm, some_night_of,
                                 some_text, wide)
from tests.test_archive import call_of, new_archive

NO_HARM = ("missed", ())


def tight(form):
    """The FORMAT with the least cell with which it is watchful."""
    bounds = form[0]
    return ((least_watchful_cell(*bounds[1:]),) + bounds[1:],) + form[1:]


def some_night(chance, form, reel):
    """A MILD NIGHT in which each group has no more HARMS than it can spare."""
    night = []
    for begin in range(0, len(reel), wide(form)):
        group = reel[begin:begin + wide(form)]
        spoiled = chance.sample(range(len(group)), min(len(group), chance.randint(0, form[3])))
        for at, slot in enumerate(group):
            if slot is None:
                night.append(None)
                continue
            one = some_night_of(chance, form[0], slot, NO_HARM)
            if at in spoiled:
                one = one[:2] + (some_mild_harm(chance, form, slot, one[0], one[1]),)
            night.append(one)
    return tuple(night)


class TestTexts(unittest.TestCase):
    """Promises 8, 30 and 32: a TEXT through PARTS, GROUPS, BLOCKS, FULL ROWS and HEARINGS, and back."""

    def test_there_and_back(self):
        chance = random.Random(200)
        for form in LET_BY + (tight(SHORT), tight(LET_BY[2])):
            self.assertTrue(is_let_by(form))
            for _ in range(3):
                deed = ("put", "a1", some_text(chance, 12))
                blocks = blocks_of(form, 7, 9, deed)
                reel = tuple(full_row(form, block) for block in blocks)
                night = some_night(chance, form, reel)
                self.assertEqual([is_night(form, reel, night), is_mild_night(form, reel, night)], [True, True])
                told = read_slots(form, heard_reel(reel, night))
                self.assertEqual(read_back(form, heard_reel_back(reel, night)), told)
                # Each one is told just as it was written, or as lost.
                self.assertEqual([block in (None, whole) for block, whole in zip(told, blocks)], [True] * len(blocks))
                parts = []
                for begin in range(0, len(told), wide(form)):
                    known = {at: block[5] for at, block in enumerate(told[begin:begin + wide(form)]) if block is not None}
                    parts.append(restored(form, known))
                self.assertEqual(deed_of(text_of(form, tuple(parts))), deed)

    def test_each_harm_is_lost_and_none_is_false(self):
        chance = random.Random(201)
        harms = 0
        for form in (tight(SHORT), tight(LET_BY[2])):
            blocks = blocks_of(form, 1, 2, ("put", "a", "flutter"))
            reel = tuple(full_row(form, block) for block in blocks)
            reel = reel + tuple(row[:chance.randint(0, len(row))] for row in reel)
            for _ in range(4):
                night = []
                for slot in reel:
                    one = some_night_of(chance, form[0], slot, NO_HARM)
                    night.append(one[:2] + (some_mild_harm(chance, form, slot, one[0], one[1]),) if chance.random() < 0.6 else one)
                self.assertTrue(is_mild_night(form, reel, night))
                harms += sum(one[2][1] != () for one in night)
                due = tuple(block_of_row(form, slot) if one[2][1] == () else None for slot, one in zip(reel, night))
                heard = heard_reel(reel, night)
                self.assertEqual(read_slots(form, heard), due)
                self.assertEqual(false_places(form, reel, heard), ())
        self.assertGreater(harms, 60)


class House:
    """An archive that is written, cut, heard in the night, and mended; and what it is to hold, by going through the DEEDS."""

    def __init__(self, test, chance, form, many):
        self.test, self.chance, self.form = test, chance, form
        self.archive = new_archive(form, many)
        # What all answered DEEDS lead to, and what they lead to with the one that was cut last.
        self.answered, self.perhaps = {}, None
        self.found = []

    def do(self, deed):
        self.archive.set_fuse(self.chance.choice((None, None, self.chance.randint(0, 300), self.chance.randint(0, 1000))))
        try:
            files = led_by_hand(self.answered, deed)
        except Stopped:
            return
        try:
            call_of(self.archive, deed)()
            self.answered = files
        except Full:
            self.found.append("full")
        except Cut:
            self.found.append("cut")
            self.perhaps = files
            self.test.assertEqual(self.archive.files(), self.answered)
            self.opening()

    def heard(self):
        """What is heard in a NIGHT, of either REEL forward or backward."""
        deck, both = self.archive.deck(), []
        for which in range(2):
            reel = deck.reel(which)
            night = some_night(self.chance, self.form, reel)
            if self.chance.random() < 0.3:
                night = swayed_night(self.form, reel, self.chance.randint(0, 30), self.chance.randint(0, 30))
            self.test.assertTrue(is_mild_night(self.form, reel, night))
            heard = heard_reel(reel, night)
            if self.chance.random() < 0.3:
                heard = tuple(heard_back(hearing) for hearing in heard_reel_back(reel, night)[::-1])
            self.test.assertEqual(false_places(self.form, reel, heard), ())
            both.append(heard)
        return tuple(both)

    def opening(self):
        """Opened and mended, as often as it is cut: with every DEED that was answered, and perhaps the last one."""
        while True:
            deck = self.archive.deck()
            deck.set_fuse(self.chance.choice((None, self.chance.randint(0, 60), self.chance.randint(0, 400))))
            self.archive = Archive(deck, self.heard())
            self.test.assertIn(self.archive.files(), (self.answered,) if self.perhaps is None else (self.answered, self.perhaps))
            try:
                self.archive.mend()
                break
            except Cut:
                self.found.append("mending")
        # Which of both it is, is settled.
        if self.perhaps is not None:
            self.found.append(("done", self.archive.files() == self.perhaps))
        self.answered, self.perhaps = self.archive.files(), None
        state = None if self.archive.epoch() is None else (self.archive.epoch(), self.archive.deeds(), deck.many() - self.archive.room())
        self.test.assertEqual((self.archive.deck().reel(0), self.archive.deck().reel(1)), due_reels(self.form, deck.many(), state))


class TestHouses(unittest.TestCase):
    """Promises 1, 9 and 37: behind any row of DEEDS, cut at any STEP, opened again, cut again."""

    def test_any_row_of_deeds(self):
        chance = random.Random(202)
        found = []
        for form, many, length in ((SHORT, 27, 24), (tight(SHORT), 45, 20), (BARE, 12, 40), (tight(LET_BY[2]), 30, 20)):
            house = House(self, chance, form, many)
            for _ in range(length):
                deed = some_deed(chance, 3, ("a", "b", "c"))
                if deed[0] != "all":
                    house.do(deed)
                if chance.random() < 0.2:
                    house.opening()
            house.found.append(("epoch", house.archive.epoch() > 1))
            found += house.found
        self.found = found
        for word in ("cut", "mending", ("done", True), ("done", False), ("epoch", True)):
            self.assertIn(word, found)

    def test_more_losses_than_spare_lose_no_answered_deed_ahead(self):
        # The DEEDS ahead of the group that lost too much are told; nothing false is.
        chance = random.Random(203)
        archive, ends = new_archive(SHORT, 42), []
        for at in range(4):
            archive.put("ab"[at % 2], "x" * at)
            ends.append(42 - archive.room())
        reel = archive.deck().reel(0)
        for lost in range(0, 42, 3):
            heard = list(heard_reel(reel, some_night(chance, SHORT, reel)))
            heard[lost:lost + 2] = [(), ()]
            kept = [end for end in ends if end <= lost]
            told = read_epoch(SHORT, 0, read_slots(SHORT, tuple(heard)))
            self.assertEqual(told, (archive.deeds()[:len(kept)], kept[-1] if kept else 0))

    def test_the_deck_alone_keeps_it(self):
        # Whatever an Archive knew, the Deck alone is handed on.
        deck = Deck(SHORT, 60)
        for deed, files in ((("put", "a", "x"), {"a": "x"}), (("rename", "a", "b"), {"b": "x"}), (("put", "c", ""), {"b": "x", "c": ""}), (("strike", "b"), {"c": ""})):
            chance = random.Random(204)
            nights = [some_night(chance, SHORT, deck.reel(which)) for which in range(2)]
            archive = Archive(deck, tuple(heard_reel(deck.reel(which), nights[which]) for which in range(2)))
            archive.mend()
            call_of(archive, deed)()
            self.assertEqual(archive.files(), files)
            deck = archive.deck()


if __name__ == "__main__":
    unittest.main()

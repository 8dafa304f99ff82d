import random
import time
import unittest

from flutterheld.blocks import width_of
from flutterheld.deeds import all_led, blocks_of, slots_for
from flutterheld.epochs import due_reels, is_let_by, mends, opened, read_epoch
from flutterheld.blockread import read_slots
from flutterheld.groups import spread
from flutterheld.harms import is_watchful
from flutterheld.heads import calm_reel
from tests.plain import bounds_of_all_sorts
from tests.plain_archive import (BARE, LET_BY, SHORT, STILL, WIDE, Stopped, blocks_by_hand, epoch_told, files_behind,
                                 led_by_hand, opened_by_hand, parts_by_hand, some_deed, some_word, wide)


def some_deeds(chance, most, many):
    """DEEDS as an EPOCH may have them: an "all", then others."""
    deeds, files = [("all", (("a", "1"), ("b", "x")))], {"a": "1", "b": "x"}
    while len(deeds) < many:
        deed = some_deed(chance, most)
        try:
            if deed[0] != "all":
                files = led_by_hand(files, deed)
                deeds.append(deed)
        except Stopped:
            pass
    return tuple(deeds)


def all_blocks(form, epoch, deeds):
    return [block for number, deed in enumerate(deeds) for block in blocks_of(form, epoch, number, deed)]


def on_reel(blocks, many):
    return tuple(blocks) + (None,) * (many - len(blocks))


def spoiled(chance, form, blocks):
    """What is told of BLOCKS, some of them lost, or with other digits."""
    told = list(blocks)
    for _ in range(chance.choice((0, 1, 2, 5, len(told) // 4))):
        at = chance.randrange(len(told))
        kind = chance.choice(("lost", "lost", "epoch", "deed", "part", "is_last", "place", "word", "swap", "cut"))
        if kind == "swap":
            other = chance.randrange(len(told))
            told[at], told[other] = told[other], told[at]
        elif kind == "cut":
            del told[at:at + chance.choice((1, wide(form)))]
        elif told[at] is None or kind == "lost":
            told[at] = None
        else:
            epoch, deed, part, is_last, place, word = told[at]
            told[at] = {"epoch": ((epoch + 1) % 64, deed, part, is_last, place, word),
                        "deed": (epoch, (deed + 1) % 256, part, is_last, place, word),
                        "part": (epoch, deed, (part + 1) % 64, is_last, place, word),
                        "is_last": (epoch, deed, part, not is_last, place, word),
                        "place": (epoch, deed, part, is_last, (place + 1) % wide(form), word),
                        "word": (epoch, deed, part, is_last, place, some_word(chance, form))}[kind]
        if not told:
            break
    return told


class TestLetBy(unittest.TestCase):
    """Promise 36: which FORMATS are LET BY."""

    def test_by_three(self):
        found = set()
        for bounds in bounds_of_all_sorts((1, 2)):
            for cell in (9, 90):
                for data in (1, 20, 73, 79, 120, 240):
                    for many, spare in ((1, 0), (2, 1), (10, 5)):
                        form = ((cell,) + bounds[1:], data, many, spare)
                        plain = (is_watchful(form[0]), width_of(form) > 0)
                        self.assertIs(is_let_by(form), plain == (True, True), form)
                        found.add(plain)
        self.assertEqual(len(found), 4)

    def test_roomy_by_counting(self):
        found = set()
        for lo, most in ((2, 3), (3, 4), (5, 9), (9, 16), (15, 16), (4, 4), (2, 2)):
            for data in list(range(1, 300, 7)) + list(range(70, 140)) + [600, 900, 1200]:
                for many, spare in ((1, 0), (8, 7)):
                    form = ((10 ** 6, (0, 1), (0, 1), lo, most, 1), data, many, spare)
                    self.assertIs(is_let_by(form), width_of(form) > 0, form)
                    found.add((lo, most, is_let_by(form)))
        self.assertEqual(len(found), 12)

    def test_at_most_15_in_a_group(self):
        bounds = (60, (1, 2), (1, 1), 2, 3, 2)
        for many, spare in ((10, 5), (15, 0), (1, 14), (14, 1), (11, 5), (16, 0), (1, 15), (10, 6)):
            self.assertIs(is_let_by((bounds, 240, many, spare)), many + spare <= 15)

    def test_the_limits_are_not_looked_at(self):
        start = time.process_time()
        bounds = (60, (1, 2), (1, 1), 2, 3, 2)
        self.assertEqual([is_let_by((bounds, data, 2, 1)) for data in (241, 5000, 10 ** 6, 10 ** 39)], [True] * 4)
        self.assertEqual([is_let_by(form) for form in (((60, (1, 2), (1, 1), 2, 2, 2), 10 ** 39, 2, 1), (bounds, 80, 10 ** 39, 1),
                                                       (bounds, 80, 2, 10 ** 39), ((60, (1, 2), (1, 1), 2, 10 ** 39, 2), 80, 2, 1),
                                                       ((60, (10 ** 39, 1), (1, 1), 2, 3, 2), 80, 2, 1),
                                                       ((60, (1, 10 ** 39), (1, 1), 2, 10 ** 39, 2), 80, 2, 1))], [False] * 6)
        self.assertEqual([is_let_by(form) for form in (((10 ** 39, (1, 2), (1, 1), 2, 3, 2), 80, 2, 1),
                                                       ((60, (1, 2), (1, 1), 2, 3, 10 ** 39), 80, 2, 1))], [True] * 2)
        self.assertLess(time.process_time() - start, 1)

    def test_some(self):
        self.assertEqual([is_let_by(form) for form in LET_BY + (STILL,)], [True] * len(LET_BY) + [False])


class TestReading(unittest.TestCase):
    """Promise 36: read_epoch and opened, against reading by hand."""

    def test_all_is_there(self):
        chance = random.Random(150)
        for form in LET_BY:
            for epoch in (0, 1, 63):
                deeds = some_deeds(chance, 5, chance.randint(1, 6))
                blocks = all_blocks(form, epoch, deeds)
                for many in (len(blocks), len(blocks) + 7):
                    told = on_reel(blocks, many)
                    self.assertEqual(read_epoch(form, epoch, told), (deeds, len(blocks)))
                    self.assertEqual(read_epoch(form, (epoch + 2) % 64, told), ((), 0))
                    both = (told, (None,) * many) if epoch % 2 == 0 else ((None,) * many, told)
                    self.assertEqual(opened(form, both), (epoch, deeds, len(blocks)))
                    self.assertIsNone(opened(form, both[::-1]))

    def test_each_beginning_of_the_blocks(self):
        chance = random.Random(151)
        for form in (SHORT, LET_BY[2]):
            deeds = some_deeds(chance, 5, 4)
            ends = [sum(slots_for(form, deed) for deed in deeds[:many]) for many in range(5)]
            blocks = all_blocks(form, 2, deeds)
            for many in range(len(blocks) + 1):
                # A group is READ as soon as many of it are there; but all its SLOTS have to be there.
                whole = max(at for at in range(5) if at == 0 or ends[at] - form[3] <= many)
                self.assertEqual(read_epoch(form, 2, on_reel(blocks[:many], len(blocks))), (deeds[:whole], ends[whole]))
                whole = max(at for at in range(5) if ends[at] <= many)
                self.assertEqual(read_epoch(form, 2, tuple(blocks[:many])), (deeds[:whole], ends[whole]))

    def test_losses_of_up_to_spare_in_each_group(self):
        chance = random.Random(152)
        for form in LET_BY:
            for _ in range(6):
                deeds = some_deeds(chance, 8, 5)
                blocks = all_blocks(form, 3, deeds)
                told = list(blocks)
                for begin in range(0, len(told), wide(form)):
                    for at in chance.sample(range(wide(form)), form[3]):
                        told[begin + at] = None
                self.assertEqual(read_epoch(form, 3, on_reel(told, len(told) + 2)), (deeds, len(blocks)))
                if form[3] > 0:
                    # One more that is lost ends it there.
                    at = chance.choice([at for at, block in enumerate(told) if block is not None])
                    number = told[at][1]
                    told[at] = None
                    behind = sum(slots_for(form, deed) for deed in deeds[:number])
                    self.assertEqual(read_epoch(form, 3, on_reel(told, len(told))), (deeds[:number], behind))

    def test_spoiled_against_reading_by_hand(self):
        chance = random.Random(153)
        found = set()
        for _ in range(500):
            form = chance.choice(LET_BY[:3])
            epoch = chance.choice((0, 0, 1, 2, 62, 63))
            deeds = some_deeds(chance, 4, chance.randint(1, 5))
            told = spoiled(chance, form, all_blocks(form, epoch, deeds))
            read = read_epoch(form, epoch, tuple(told))
            self.assertEqual(read, epoch_told(form, epoch, tuple(told)))
            found.add(len(read[0]) - len(deeds))
            other = all_blocks(form, chance.randint(0, 63), some_deeds(chance, 4, 2))
            reels = [tuple(told) + tuple(other), tuple(spoiled(chance, form, other))]
            chance.shuffle(reels)
            longest = max(map(len, reels))
            reels = tuple(on_reel(reel, longest) for reel in reels)
            self.assertEqual(opened(form, reels), opened_by_hand(form, reels))
        self.assertGreater(len(found), 4)

    def test_blocks_that_tell_no_known_word(self):
        form, deeds = SHORT, (("all", (("a", "1"),)), ("strike", "a"))
        blocks = all_blocks(form, 4, deeds)
        end = len(blocks)
        self.assertEqual(blocks[-3][:5], (4, 1, 0, True, 0))
        for at, other in ((0, 6), (0, 2), (1, 0), (1, 2), (2, 1), (4, 1), (4, 2)):
            changed = list(blocks)
            changed[-3] = blocks[-3][:at] + (other,) + blocks[-3][at + 1:]
            # It is as if it were lost: two of three are left.
            self.assertEqual(read_epoch(form, 4, on_reel(changed, end)), (deeds, end))
            changed[-1] = None
            self.assertEqual(read_epoch(form, 4, on_reel(changed, end)), (deeds[:1], end - 3))

    def test_the_same_is_last(self):
        form, deeds = SHORT, (("all", (("a", "1"),)), ("strike", "a"))
        blocks = all_blocks(form, 4, deeds)
        blocks[-3] = blocks[-3][:3] + (False,) + blocks[-3][4:]
        self.assertEqual(read_epoch(form, 4, tuple(blocks)), (deeds[:1], len(blocks) - 3))
        # A BLOCK that tells no KNOWN word is not asked.
        blocks[-3] = blocks[-3][:2] + (1,) + blocks[-3][3:]
        self.assertEqual(read_epoch(form, 4, tuple(blocks)), (deeds, len(blocks)))

    def test_restored_takes_the_many_least_places(self):
        form, deeds = SHORT, (("all", (("a", "1"),)), ("strike", "a"))
        for at, present in ((-1, True), (-2, False), (-3, False)):
            blocks = all_blocks(form, 4, deeds)
            blocks[at] = blocks[at][:5] + (((blocks[at][5][0] + 1) % 97,),)
            self.assertIs(read_epoch(form, 4, tuple(blocks)) == (deeds, len(blocks)), present)

    def lines(self, form, epoch, lines):
        blocks = []
        for number, line in enumerate(lines):
            parts = parts_by_hand(form, line)
            blocks += [(epoch, number, part, part == len(parts) - 1, place, word)
                       for part, words in enumerate(parts) for place, word in enumerate(spread(form, words))]
        return blocks

    def test_what_is_no_deed_there(self):
        form = SHORT
        begin, more = "aa 1 1b 0 ", "pc"
        for lines, present in (([begin, "pc x", "sa"], 3), ([begin, more], 1), ([begin, "s", "sa"], 1), ([begin, "", "sa"], 1),
                               ([begin, "sc"], 1), ([begin, "rc d"], 1), ([begin, "ra b"], 1), ([begin, "ra a"], 1), ([begin, "ra c", "sa"], 2),
                               ([begin, "a", "sa"], 1), ([begin, begin], 1), (["pa x", "sa"], 0), (["sa"], 0), (["a", "pa x"], 2), ([""], 0)):
            blocks = self.lines(form, 0, lines)
            deeds, place = read_epoch(form, 0, tuple(blocks))
            self.assertEqual([len(deeds), place], [present, len(self.lines(form, 0, lines[:present]))], lines)

    def test_a_part_too_many(self):
        # The last PART is filling alone.
        parts = parts_by_hand(SHORT, "a") + (((96,), (96,)),)
        blocks = [(0, 0, part, part == 1, place, word) for part, words in enumerate(parts) for place, word in enumerate(spread(SHORT, words))]
        self.assertEqual(read_epoch(SHORT, 0, tuple(blocks)), ((), 0))

    def test_parts_that_go_on_for_ever(self):
        # 64 parts, none of which is the last one.
        words = parts_by_hand(BARE, "x")[0]
        blocks = [(0, 0, part, False, place, word) for part in range(64) for place, word in enumerate(spread(BARE, words))]
        self.assertEqual(read_epoch(BARE, 0, tuple(blocks)), ((), 0))
        deed = ("all", (("a", "x" * 123),))
        blocks = blocks_of(BARE, 0, 0, deed)
        self.assertEqual(len(read_epoch(BARE, 0, tuple(blocks))[0]), 1)

    def test_at_most_256_deeds(self):
        deeds = (("all", ()),) + tuple(("put", "a", "") for _ in range(255))
        blocks = all_blocks(BARE, 0, deeds)
        start = time.process_time()
        self.assertEqual(read_epoch(BARE, 0, tuple(blocks)), (deeds, len(blocks)))
        # What follows has the number 0 once more, as there is no other one left.
        self.assertEqual(read_epoch(BARE, 0, tuple(blocks) * 2), (deeds, len(blocks)))
        self.assertLess(time.process_time() - start, 5)

    def test_the_greatest_epoch_that_has_deeds(self):
        one, other = (("all", ()),), (("all", (("a", ""),)), ("strike", "a"))
        for less, more in ((0, 1), (1, 2), (62, 63), (3, 4)):
            told = [None, None]
            told[less % 2] = on_reel(all_blocks(SHORT, less, one), 30)
            told[more % 2] = on_reel(all_blocks(SHORT, more, other), 30)
            self.assertEqual(opened(SHORT, tuple(told))[:2], (more, other))
            # Where nothing of it is PRESENT, the one ahead of it is.
            told[more % 2] = (None, None) + told[more % 2][2:]
            self.assertEqual(opened(SHORT, tuple(told))[:2], (less, one))
        # An EPOCH that stands on the other REEL is none.
        self.assertIsNone(opened(SHORT, (on_reel(all_blocks(SHORT, 1, one), 9), (None,) * 9)))
        self.assertIsNone(opened(SHORT, ((), ())))

    def test_two_epochs_on_one_reel(self):
        # EPOCH 2 over what stood there, of EPOCH 0.
        old = all_blocks(SHORT, 0, some_deeds(random.Random(154), 4, 5))
        new = (("all", (("a", "1"),)), ("put", "b", ""))
        blocks = all_blocks(SHORT, 2, new)
        told = on_reel(blocks + old[len(blocks):], 60)
        self.assertLess(len(blocks), len(old))
        self.assertEqual(opened(SHORT, (told, (None,) * 60)), (2, new, len(blocks)))
        self.assertEqual(read_epoch(SHORT, 0, told), ((), 0))


class TestMends(unittest.TestCase):
    """Promise 36: mends and due_reels."""

    def test_by_their_words(self):
        chance = random.Random(155)
        found = set()
        for _ in range(150):
            form = chance.choice(LET_BY[:3])
            many = 60
            reels = []
            for which in range(2):
                blocks = all_blocks(form, chance.choice((which, which + 2)), some_deeds(chance, 3, chance.randint(1, 3)))
                reels.append(on_reel(spoiled(chance, form, blocks)[:many], many))
            told = tuple(reels)
            state = opened_by_hand(form, told)
            plain = []
            which = 0
            if state is not None:
                which = state[0] % 2
                due = [block for number, deed in enumerate(state[1]) for block in blocks_by_hand(form, state[0], number, deed)]
                plain = [(which, place, block) for place, block in enumerate(due) if told[which][place] != block]
                found.add((which, plain != []))
            plain += [(which, place, None) for place in range(state[2] if state else 0, many)]
            plain += [(1 - which, place, None) for place in range(many)]
            self.assertEqual(mends(form, told), plain)
        self.assertEqual(len(found), 4)

    def test_nothing_is_there(self):
        self.assertEqual(mends(SHORT, ((None,) * 3, (None,) * 3)), [(0, 0, None), (0, 1, None), (0, 2, None), (1, 0, None), (1, 1, None), (1, 2, None)])
        self.assertEqual(due_reels(SHORT, 3, None), ((None,) * 3, (None,) * 3))

    def test_due_reels(self):
        chance = random.Random(156)
        for form in LET_BY[:3]:
            for epoch in (0, 1, 62, 63):
                deeds = some_deeds(chance, 4, 3)
                blocks = all_blocks(form, epoch, deeds)
                state = (epoch, deeds, len(blocks))
                reels = due_reels(form, 70, state)
                told = tuple(read_slots(form, calm_reel(form, reel)) for reel in reels)
                self.assertEqual(told[epoch % 2], on_reel(blocks, 70))
                self.assertEqual([told[1 - epoch % 2], reels[1 - epoch % 2]], [(None,) * 70] * 2)
                self.assertEqual([row is None for row in reels[epoch % 2]], [at >= len(blocks) for at in range(70)])
                self.assertEqual(opened(form, told), state)
                # What is due needs no mends but to keep bare what is bare.
                self.assertEqual({block for _, _, block in mends(form, told)}, {None})

    def test_long_ones_in_time(self):
        start = time.process_time()
        deeds = (("all", (("a", "x" * 2000),)), ("put", "b", "y" * 450))
        blocks = all_blocks(WIDE, 1, deeds)
        told = ((None,) * 400, on_reel(blocks, 400))
        self.assertEqual(len(blocks), 390)
        self.assertEqual(opened(WIDE, told), (1, deeds, len(blocks)))
        self.assertEqual(len(mends(WIDE, told)), 800 - len(blocks))
        self.assertEqual(sum(row is not None for row in due_reels(WIDE, 400, opened(WIDE, told))[1]), len(blocks))
        self.assertEqual(all_led(deeds), files_behind(deeds))
        self.assertLess(time.process_time() - start, 5)


if __name__ == "__main__":
    unittest.main()

import itertools
import random
import time
import unittest

from flutterheld.blocks import width_of
from flutterheld.errors import TooMany
from flutterheld.groups import agree, is_group, parts_of, restored, signs_in, spread, text_of, twin_groups
from tests.plain import ODD, deep, nearly
from tests.plain_archive import (BARE, LET_BY, LONG, SHORT, SIGNS, STILL, WIDE, group_by_products, parts_by_hand, some_text,
                                 some_word, wide)

# many is 3, spare 2, and so few that all may be tried.
SMALL = ((4, (0, 1), (0, 1), 1, 2, 1), 60, 3, 2)
FORMS = LET_BY + (STILL, LONG, SMALL)


def some_words(chance, form):
    return tuple(some_word(chance, form) for _ in range(form[2]))


class TestGroups(unittest.TestCase):
    """Promise 32, of 8 and 10: GROUPS."""

    def test_widths_are_of_all_sorts(self):
        self.assertEqual([width_of(form) for form in (SHORT, WIDE)], [1, 10])
        self.assertGreater(len({width_of(form) for form in FORMS}), 3)

    def test_spread_by_products(self):
        chance = random.Random(110)
        for form in FORMS:
            for _ in range(5):
                words = some_words(chance, form)
                group = spread(form, words)
                self.assertEqual(group, group_by_products(form, dict(enumerate(words))))
                self.assertEqual([len(group), group[:form[2]]], [wide(form), words])
                self.assertIs(is_group(form, group), True)

    def test_every_lot_of_many_places_restores_all(self):
        chance = random.Random(111)
        for form in (SHORT, BARE, STILL, SMALL, LET_BY[2]):
            words = some_words(chance, form)
            group = spread(form, words)
            for count in range(wide(form) + 1):
                for lot in itertools.combinations(range(wide(form)), count):
                    known = {place: group[place] for place in chance.sample(lot, count)}
                    self.assertEqual(restored(form, known), words if count >= form[2] else None)
                    self.assertIs(agree(form, known), True)

    def test_of_every_lot_of_fewer_two_groups_are_left(self):
        chance = random.Random(112)
        for form in (SHORT, BARE, STILL, SMALL, LET_BY[2]):
            group = spread(form, some_words(chance, form))
            for count in range(form[2]):
                for lot in itertools.combinations(range(wide(form)), count):
                    known = {place: group[place] for place in chance.sample(lot, count)}
                    one, other = twin_groups(form, known)
                    self.assertEqual([is_group(form, one), is_group(form, other)], [True, True])
                    self.assertEqual([place for place in range(wide(form)) if one[place] == other[place]], list(lot))
                    self.assertEqual({place: one[place] for place in lot}, {place: group[place] for place in lot})
                    self.assertEqual(twin_groups(form, dict(sorted(known.items(), reverse=True))), (one, other))

    def test_lots_of_long_groups(self):
        chance = random.Random(113)
        for form in (WIDE, LONG):
            words = some_words(chance, form)
            group = spread(form, words)
            for _ in range(30):
                lot = sorted(chance.sample(range(15), chance.randint(0, 15)))
                known = {place: group[place] for place in lot}
                self.assertEqual(restored(form, known), words if len(lot) >= form[2] else None)
                if len(lot) < form[2]:
                    one, other = twin_groups(form, known)
                    self.assertEqual([place for place in range(15) if one[place] == other[place]], lot)
                    self.assertTrue(is_group(form, one) and is_group(form, other))

    def test_restoring_by_trying(self):
        # One SYMBOL and two WORDS: of all 97 * 97 GROUPS just those agree that have the known WORDS.
        chance = random.Random(114)
        self.assertEqual(width_of(STILL), 1)
        groups = [spread(STILL, ((one,), (other,))) for one in range(97) for other in range(97)]
        self.assertEqual(len(set(groups)), 97 ** 2)
        for _ in range(40):
            known = {place: (chance.randint(0, 96),) for place in chance.sample(range(3), chance.randint(0, 3))}
            if chance.random() < 0.4:
                known = {place: chance.choice(groups)[place] for place in known}
            found = [group for group in groups if all(group[place] == word for place, word in known.items())]
            self.assertIs(agree(STILL, known), found != [])
            if len(known) >= 2:
                least = sorted(known)[:2]
                by_least = [group[:2] for group in groups if all(group[place] == known[place] for place in least)]
                self.assertEqual([restored(STILL, known)], by_least)
            else:
                self.assertIsNone(restored(STILL, known))
                self.assertTrue(set(twin_groups(STILL, known)) <= set(found))

    def test_the_least_places_alone_are_asked(self):
        chance = random.Random(115)
        for form in (SHORT, STILL, SMALL, LET_BY[2]):
            words = some_words(chance, form)
            group = spread(form, words)
            last = group[-1][:-1] + ((group[-1][-1] + 1) % 97,)
            known = {wide(form) - 1: last, **{place: group[place] for place in reversed(range(form[2]))}}
            self.assertEqual(restored(form, known), words)
            self.assertIs(agree(form, known), False)
            # As one of the many least places it is asked.
            known = {wide(form) - 1: last, **{place: group[place] for place in range(1, form[2])}}
            self.assertNotEqual(restored(form, known), words)
            self.assertIs(agree(form, known), True)

    def test_spare_0(self):
        chance = random.Random(116)
        words = some_words(chance, BARE)
        self.assertEqual([spread(BARE, words), restored(BARE, {0: words[0]}), restored(BARE, {})], [words, words, None])
        self.assertEqual([agree(BARE, {}), is_group(BARE, words), is_group(BARE, ())], [True, True, False])
        one, other = twin_groups(BARE, {})
        self.assertTrue(is_group(BARE, one) and is_group(BARE, other) and one != other)

    def test_is_group_of_any_value(self):
        chance = random.Random(117)
        found = []
        for form in (SHORT, STILL, SMALL, BARE):
            group = spread(form, some_words(chance, form))
            for thing in [group] + list(nearly(group)) + list(ODD) + [deep(20)]:
                plain = (type(thing) is tuple and len(thing) == wide(form) and all(
                    type(word) is tuple and len(word) == width_of(form)
                    and all(type(symbol) is int and 0 <= symbol <= 96 for symbol in word) for word in thing))
                plain = plain and group_by_products(form, dict(enumerate(thing[:form[2]]))) == thing
                self.assertIs(is_group(form, thing), plain, thing)
                found.append(plain)
        self.assertEqual(set(found), {True, False})
        self.assertEqual([is_group(STILL, ((1,), (1,), last)) for last in ((1,), (True,), [1], 1)], [True, False, False, False])

    def test_nothing_is_changed(self):
        known = {2: (9,), 0: (5,)}
        restored(STILL, known), agree(STILL, known), twin_groups(STILL, {1: (3,)})
        self.assertEqual(list(known.items()), [(2, (9,)), (0, (5,))])


class TestParts(unittest.TestCase):
    """Promise 32: TEXTS and PARTS."""

    def test_each_sign(self):
        self.assertEqual(len(SIGNS), 95)
        self.assertEqual([parts_of(BARE, sign)[0][0][0] for sign in SIGNS], list(range(95)))
        self.assertEqual([SIGNS.index(sign) for sign in " $&~\n"], [0, 4, 5, 93, 94])

    def test_there_and_back(self):
        chance = random.Random(118)
        for form in FORMS:
            room = form[2] * width_of(form)
            for signs in [0, 1, room - 1, room, room + 1, 2 * room, 2 * room + 1, 63 * room, 64 * room - 1, 64 * room]:
                text = "".join(chance.choice(SIGNS) for _ in range(signs))
                parts = parts_of(form, text)
                self.assertEqual(parts, parts_by_hand(form, text))
                self.assertEqual(len(parts), max(1, -(-signs // room)))
                self.assertEqual(text_of(form, parts), text)

    def test_just_beyond_64_parts(self):
        for form in FORMS:
            room = form[2] * width_of(form)
            self.assertEqual(signs_in(form), 64 * room)
            self.assertEqual(len(parts_of(form, "x" * (64 * room))), 64)
            for signs in (64 * room + 1, 65 * room, 100 * room):
                with self.assertRaises(TooMany) as caught:
                    parts_of(form, "x" * signs)
                self.assertEqual(caught.exception.most, 64)
            part = parts_of(form, "x" * room)
            self.assertEqual([text_of(form, part * 64), text_of(form, part * 65)], ["x" * (64 * room), None])

    def test_parts_of_no_text(self):
        for form in FORMS:
            many, width = form[2], width_of(form)

            def parts(*symbols):
                symbols = list(symbols) + [96] * (-len(symbols) % (many * width))
                words = [tuple(symbols[at:at + width]) for at in range(0, len(symbols), width)]
                return tuple(tuple(words[at:at + many]) for at in range(0, len(words), many))

            room = many * width
            filled = [5] * (room - 1)
            for symbols in ([95] + filled, filled + [95], filled + [96, 5], [96] * room + [5], [95] * room, filled + [5] + [96] * room,
                            [96] * (2 * room), [], filled + [5] + [95]):
                self.assertIsNone(text_of(form, parts(*symbols)), (form, symbols))
            self.assertEqual(text_of(form, parts(*filled, 5)), "&" * room)
            self.assertEqual(text_of(form, parts(*[96] * room)), "")
            self.assertEqual(text_of(form, parts(*filled, 94, 94)), "&" * (room - 1) + "\n\n")

    def test_parts_by_trying(self):
        # Two SYMBOLS a part: of all parts, just those of a TEXT tell it.
        texts = {parts_of(STILL, text): text for many in range(3) for text in map("".join, itertools.product(" ~\n", repeat=many))}
        for one, other in itertools.product((0, 93, 94, 95, 96), repeat=2):
            part = (((one,), (other,)),)
            self.assertEqual(text_of(STILL, part), texts.get(part))

    def test_long_texts_at_once(self):
        chance = random.Random(119)
        start = time.process_time()
        for form in (WIDE, LONG):
            text = some_text(chance, signs_in(form))
            self.assertEqual(text_of(form, tuple(restored(form, dict(enumerate(spread(form, part)[1:], 1)))
                                                 for part in parts_of(form, text))), text)
        self.assertLess(time.process_time() - start, 5)


if __name__ == "__main__":
    unittest.main()

import itertools
import random
import time
import unittest

from flutterheld.blocks import full_row
from flutterheld.counts import all_bodies
from flutterheld.errors import Cut, TapeError, Wrong
from flutterheld.forms import lead_of
from flutterheld.hearer import Hearer
from flutterheld.reels import Deck, is_beginning, marks_in, stages_between, way_between
from flutterheld.rows import rows_over
from tests import plain
from tests.plain import ODD, deep, nearly
from tests.plain_archive import LET_BY, SHORT, WIDE
from tests.test_blocks import some_block

FORM = ((40, (1, 2), (1, 1), 2, 3, 2), 7, 2, 1)
ONE, OTHER = (3, 3, 2, 2, 3, 3, 3), (3, 3, 2, 3, 2, 3, 3)
FORMS = (FORM, ((9, (0, 1), (0, 1), 1, 2, 1), 5, 1, 0), ((9, (0, 1), (0, 1), 3, 4, 1), 11, 1, 0),
         ((9, (0, 1), (0, 1), 2, 2, 2), 6, 1, 0), ((9, (0, 1), (0, 1), 2, 5, 3), 9, 1, 0))


def full_rows(form):
    return [lead_of(form[0]) + body + lead_of(form[0]) for body in all_bodies(form[0], form[1])]


def beginnings(form):
    return [None] + sorted({row[:runs] for row in full_rows(form) for runs in range(len(row) + 1)})


class TestBeginnings(unittest.TestCase):
    """Promise 33: is_beginning, marks_in, and the ways from one to another one."""

    def test_is_beginning_by_listing(self):
        found = []
        for form in FORMS:
            listed = set(beginnings(form))
            rows = [row for cells in range(15) for row in rows_over(form[0], cells)]
            rows += [lead_of(form[0]) + row for cells in range(12) for row in rows_over(form[0], cells)]
            for row in rows + full_rows(form):
                self.assertIs(is_beginning(form, row), row in listed, (form, row))
                found.append(row in listed)
            self.assertTrue(all(is_beginning(form, one) for one in listed))
        self.assertGreater(min(found.count(True), found.count(False)), 100)

    def test_is_beginning_of_any_value(self):
        for form in FORMS:
            listed = set(beginnings(form))
            for thing in [part for row in full_rows(form)[:4] for part in nearly(row)] + list(ODD) + [deep(20), Deck(form, 1)]:
                is_row = type(thing) is tuple and all(type(part) is int for part in thing)
                self.assertIs(is_beginning(form, thing), thing is None or (is_row and thing in listed), thing)

    def test_longer_than_a_full_row(self):
        for row in full_rows(FORM):
            self.assertIs(is_beginning(FORM, row), True)
            for more in ((2,), (3,), (3, 3), lead_of(FORM[0])):
                self.assertIs(is_beginning(FORM, row + more), False)

    def test_marks_in(self):
        self.assertEqual([marks_in(None), marks_in(()), marks_in((3,)), marks_in(ONE)], [0, 1, 2, 8])

    def neighbours(self, listed, one):
        """What a STEP makes of a BEGINNING: its last MARK taken away, or one more put."""
        if one is None:
            return [()]
        return [None if one == () else one[:-1]] + [other for other in listed if other is not None and other[:-1] == one
                                                     and len(other) == len(one) + 1]

    def test_the_fewest_steps_by_trying(self):
        for form in FORMS[:2]:
            listed = beginnings(form)
            for one in listed[::3]:
                # By going on from one, STEP by STEP, to all that can be reached.
                steps, edge = {one: 0}, [one]
                while edge:
                    edge = [other for here in edge for other in self.neighbours(listed, here)
                            if other not in steps and not steps.update({other: steps[here] + 1})]
                for other in listed:
                    self.assertEqual(sum(way_between(one, other)), steps[other], (one, other))

    def test_stages(self):
        for form in FORMS[:2]:
            listed = beginnings(form)
            for one, other in itertools.product(listed, repeat=2):
                taken, put = way_between(one, other)
                stages = stages_between(one, other)
                self.assertEqual(len(stages), taken + put)
                ways = [marks_in(here) - marks_in(there) for there, here in zip([one] + stages, stages)]
                self.assertEqual(ways, [-1] * taken + [1] * put)
                self.assertEqual(([one] + stages)[-1], other)
                for there, here in zip([one] + stages, stages):
                    self.assertIn(here, self.neighbours(listed, there))
                self.assertEqual(one == other, stages == [])

    def test_some_ways(self):
        self.assertEqual([way_between(None, None), way_between(None, ()), way_between((), None), way_between((), ()), way_between((), ONE)],
                         [(0, 0), (0, 1), (1, 0), (0, 0), (0, 7)])
        self.assertEqual([stages_between(None, (3,)), stages_between((3,), None), stages_between(None, None)],
                         [[(), (3,)], [(), None], []])
        # The first MARK alone is shared.
        self.assertEqual([way_between((2, 3), (3, 3, 2)), stages_between((2, 3), (3,))], [(2, 3), [(2,), (), (3,)]])


def stand(deck):
    return [deck.reel(0), deck.reel(1), deck.steps(), deck.fuse()]


class TestDeck(unittest.TestCase):
    """Promise 33: a Deck."""

    def test_at_first(self):
        for form, many in ((FORM, 1), (SHORT, 40), (WIDE, 400)):
            deck = Deck(form, many)
            self.assertEqual([deck.form(), deck.many()] + stand(deck), [form, many, (None,) * many, (None,) * many, 0, None])

    def test_write_and_clear(self):
        deck = Deck(FORM, 3)
        self.assertIsNone(deck.write(1, 2, ONE))
        self.assertEqual(stand(deck), [(None,) * 3, (None, None, ONE), 8, None])
        deck.write(1, 2, OTHER)
        self.assertEqual(stand(deck), [(None,) * 3, (None, None, OTHER), 16, None])
        deck.write(0, 0, OTHER)
        deck.write(0, 0, OTHER)
        self.assertEqual(stand(deck), [(OTHER, None, None), (None, None, OTHER), 24, None])
        self.assertIsNone(deck.clear(1, 2))
        deck.clear(1, 2)
        deck.clear(1, 0)
        self.assertEqual(stand(deck), [(OTHER, None, None), (None,) * 3, 32, None])

    def test_behind_each_step(self):
        for one, other in ((None, ONE), (ONE, OTHER), (OTHER, None)):
            for steps in range(20):
                deck = Deck(FORM, 2)
                if one is not None:
                    deck.write(0, 1, one)
                before = deck.steps()
                deck.set_fuse(steps)
                stages = stages_between(one, other)
                caught = None
                try:
                    deck.clear(0, 1) if other is None else deck.write(0, 1, other)
                except Cut as error:
                    caught = (error.which, error.place)
                self.assertEqual(caught, (0, 1) if steps < len(stages) else None)
                done = min(steps, len(stages))
                self.assertEqual(stand(deck), [(None, ([one] + stages)[done]), (None, None), before + done, steps - done])

    def test_a_fuse_over_many_calls(self):
        deck = Deck(FORM, 2)
        deck.set_fuse(30)
        deck.write(0, 0, ONE)
        deck.write(1, 0, OTHER)
        self.assertEqual([deck.fuse(), deck.steps()], [14, 16])
        deck.clear(0, 0)
        with self.assertRaises(Cut) as caught:
            deck.clear(1, 0)
        self.assertEqual([caught.exception.which, caught.exception.place], [1, 0])
        self.assertEqual(stand(deck), [(None, None), ((3,), None), 30, 0])
        # What lacks no STEP is done, what lacks one is not, time and again.
        deck.clear(0, 0)
        for _ in range(2):
            with self.assertRaises(Cut):
                deck.write(0, 1, ONE)
        self.assertEqual(stand(deck), [(None, None), ((3,), None), 30, 0])
        deck.set_fuse(None)
        deck.clear(1, 0)
        self.assertEqual(stand(deck), [(None, None), (None, None), 32, None])

    def test_a_fuse_of_0(self):
        deck = Deck(FORM, 1)
        deck.write(0, 0, ONE)
        deck.set_fuse(0)
        self.assertEqual(deck.fuse(), 0)
        deck.write(0, 0, ONE)
        deck.clear(1, 0)
        for call in (lambda: deck.clear(0, 0), lambda: deck.write(0, 0, OTHER), lambda: deck.write(1, 0, ONE)):
            with self.assertRaises(Cut):
                call()
        self.assertEqual(stand(deck), [(ONE,), (None,), 8, 0])

    def test_wrong_forms(self):
        things = list(nearly(FORM)) + list(ODD) + [deep(20), Hearer(FORM[0]), Deck(FORM, 1), (FORM[0], 1, 2, 1), (FORM[0], 10 ** 39, 2, 1),
                                                  ((9, (0, 1), (0, 1), 7, 7, 1), 20, 1, 0), ((9, (0, 1), (0, 1), 7, 7, 1), 21, 1, 0)]
        found = []
        for thing in things:
            is_right = plain.is_format(thing) and any(many * thing[0][3] <= thing[1] <= many * thing[0][4]
                                                      for many in (-(-thing[1] // thing[0][4]), thing[1] // thing[0][3]))
            found.append(is_right)
            if is_right:
                self.assertEqual(Deck(thing, 1).form(), thing)
                continue
            for many in (1, 0, None):
                with self.assertRaises(Wrong) as caught:
                    Deck(thing, many)
                self.assertEqual(caught.exception.place, 0)
        self.assertEqual(set(found), {True, False})

    def test_wrong_numbers_of_slots(self):
        for thing in list(ODD) + [0, -1, 401, 10 ** 39, True, "1", deep(20), (1,)]:
            if type(thing) is int and 1 <= thing <= 400:
                self.assertEqual(Deck(FORM, thing).many(), thing)
                continue
            with self.assertRaises(Wrong) as caught:
                Deck(FORM, thing)
            self.assertEqual(caught.exception.place, 1)

    def check_wrong(self, deck, call, place):
        before = stand(deck)
        with self.assertRaises(TapeError) as caught:
            call()
        self.assertIs(type(caught.exception), Wrong)
        self.assertEqual([caught.exception.place, stand(deck)], [place, before])

    def test_wrong_arguments(self):
        deck = Deck(FORM, 3)
        deck.write(0, 0, ONE)
        # Ahead of Cut, too.
        deck.set_fuse(0)
        for thing in list(ODD) + [2, 3, -1, deep(20), 10 ** 39]:
            if not (type(thing) is int and 0 <= thing <= 1):
                self.check_wrong(deck, lambda: deck.reel(thing), 0)
                self.check_wrong(deck, lambda: deck.write(thing, None, None), 0)
                self.check_wrong(deck, lambda: deck.clear(thing, 99), 0)
            if not (type(thing) is int and 0 <= thing <= 2):
                self.check_wrong(deck, lambda: deck.write(1, thing, None), 1)
                self.check_wrong(deck, lambda: deck.clear(0, thing), 1)
            if thing is not None and not (type(thing) is int and thing >= 0):
                self.check_wrong(deck, lambda: deck.set_fuse(thing), 0)
        for thing in list(nearly(ONE)) + list(ODD) + [ONE[:-1], ONE + (3,), (), None]:
            if not plain.is_full(FORM, thing):
                self.check_wrong(deck, lambda: deck.write(0, 1, thing), 2)

    def test_fuses(self):
        deck = Deck(FORM, 1)
        for fuse in (0, 5, 10 ** 39, None):
            self.assertIsNone(deck.set_fuse(fuse))
            self.assertEqual(deck.fuse(), fuse)

    def test_twin(self):
        deck = Deck(FORM, 2)
        deck.set_fuse(40)
        deck.write(0, 1, ONE)
        twin = deck.twin()
        self.assertEqual([stand(twin), twin.form(), twin.many(), twin == deck], [stand(deck), FORM, 2, True])
        twin.write(0, 0, OTHER)
        self.assertEqual([deck.reel(0), twin.reel(0), deck.fuse(), twin.fuse()], [(None, ONE), (OTHER, ONE), 32, 24])
        deck.clear(0, 1)
        self.assertEqual([deck.reel(0), twin.reel(0)], [(None, None), (OTHER, ONE)])

    def test_equal(self):
        deck, other = Deck(FORM, 2), Deck(FORM, 2)
        self.assertTrue(deck == other and not deck != other)
        deck.write(0, 0, ONE)
        self.assertFalse(deck == other)
        deck.clear(0, 0)
        # The STEPS done do not count.
        self.assertEqual([deck.steps(), other.steps(), deck == other], [16, 0, True])
        deck.set_fuse(3)
        self.assertFalse(deck == other)
        other.set_fuse(3)
        self.assertTrue(deck == other)
        deck.set_fuse(None)
        other.set_fuse(0)
        self.assertFalse(deck == other)
        self.assertFalse(Deck(FORM, 2) == Deck(FORM, 3))
        self.assertFalse(Deck(FORM, 2) == Deck(FORM[:1] + (9,) + FORM[2:], 2))
        one, two = Deck(FORM, 2), Deck(FORM, 2)
        one.write(0, 0, ONE)
        two.write(1, 0, ONE)
        self.assertFalse(one == two)
        for thing in ODD + (Hearer(FORM[0]), FORM, [None, None]):
            self.assertFalse(Deck(FORM, 2) == thing)

    def test_all_of_400_slots(self):
        chance = random.Random(120)
        start = time.process_time()
        deck, rows = Deck(WIDE, 400), {}
        for which in range(2):
            for place in range(400):
                rows[which, place] = full_row(WIDE, some_block(chance, WIDE))
                deck.write(which, place, rows[which, place])
        self.assertEqual([deck.reel(which)[place] for which, place in rows], list(rows.values()))
        self.assertEqual(deck.steps(), sum(map(marks_in, rows.values())))
        self.assertEqual(deck.twin(), deck)
        self.assertLess(time.process_time() - start, 5)

    def test_let_by_formats(self):
        for form in LET_BY:
            self.assertEqual(Deck(form, 2).form(), form)


if __name__ == "__main__":
    unittest.main()

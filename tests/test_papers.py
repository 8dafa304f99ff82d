import itertools
import random
import unittest
from fractions import Fraction

from flutterheld.errors import TooMany
from flutterheld.hearer import rows_that_fit
from flutterheld.hearings import gives, inequalities
from flutterheld.papers import all_paper, is_all_paper, is_none_paper, none_paper, rows_of_paper
from flutterheld.tellings import telling_for
from tests.plain import (ODD, bounds_of_all_sorts, deep, does_fit, fraction, heard_by_chance, is_fraction, nearly, some_row, told)

BOUNDS = (4, (1, 2), (1, 4), 1, 2, 1)
HEARD = ((1, 1), (39, 4), (55, 4), (47, 2))


def plain_is_none_paper(bounds, row, hearing, thing):
    """As DOC.md tells it, added up by Fraction."""
    if len(hearing) != len(row) + 1:
        return type(thing) is tuple and thing == ()
    rules = inequalities(bounds, row, hearing)
    if type(thing) is not tuple or len(thing) != len(rules):
        return False
    if not all(is_fraction(part) and part[0] >= 0 for part in thing):
        return False
    parts = [fraction(part) for part in thing]
    for at in range(1 + sum(row)):
        if sum(part * factors[at] for part, (factors, _) in zip(parts, rules)) != 0:
            return False
    return sum(part * fraction(most) for part, (_, most) in zip(parts, rules)) < 0


def some_asked(seed, many, most_runs):
    chance = random.Random(seed)
    for _ in range(many):
        bounds = (chance.choice((1, 2, 5)),) + chance.choice(bounds_of_all_sorts((1,)))[1:]
        row = some_row(chance, bounds, chance.randint(0, most_runs))
        row += (chance.randint(1, 9),) if chance.random() < 0.3 else ()
        hearing = heard_by_chance(chance, bounds, row)
        yield bounds, some_row(chance, bounds, len(row)) if chance.random() < 0.2 else row, hearing


class TestNonePapers(unittest.TestCase):
    """Promise 25, of 7: what does not FIT is shown to a small judge."""

    def test_either_a_telling_or_a_paper(self):
        found = []
        for bounds, row, hearing in some_asked(50, 900, 8):
            telling, paper = telling_for(bounds, row, hearing), none_paper(bounds, row, hearing)
            self.assertIs(telling is None, paper is not None, (bounds, row, hearing))
            if telling is not None:
                self.assertTrue(gives(bounds, row, telling, hearing))
            else:
                self.assertTrue(plain_is_none_paper(bounds, row, hearing, paper), (bounds, row, hearing))
                self.assertIs(is_none_paper(bounds, row, hearing, paper), True)
            found.append(telling is None)
        self.assertGreater(min(found.count(True), found.count(False)), 250)

    def test_just_beyond_the_limit(self):
        tiny = Fraction(1, 10 ** 40)
        for row, hearing in (((2,), ((0, 1), told(Fraction(15, 2) - tiny))), ((1,), ((0, 1), told(Fraction(7, 2) - tiny))),
                             ((1, 1, 1), ((0, 1), (4, 1), (8, 1), told(Fraction(27, 2) + tiny))),
                             ((1, 1, 1), ((0, 1), told(Fraction(11, 2) + tiny), told(Fraction(19, 2)), told(Fraction(27, 2))))):
            self.assertIs(none_paper(BOUNDS, row, hearing) is None, does_fit(BOUNDS, row, hearing))
            if not does_fit(BOUNDS, row, hearing):
                self.assertTrue(plain_is_none_paper(BOUNDS, row, hearing, none_paper(BOUNDS, row, hearing)))

    def test_another_number_of_items(self):
        for row in ((), (2,), (2, 1), (2, 1, 2, 1)):
            self.assertEqual(none_paper(BOUNDS, row, HEARD), ())
            self.assertEqual([is_none_paper(BOUNDS, row, HEARD, thing) for thing in ((), [], None, ((0, 1),), {}, "")],
                             [True] + [False] * 5)
        self.assertEqual([none_paper(BOUNDS, (), ()), is_none_paper(BOUNDS, (), (), ())], [(), True])

    def test_no_paper_where_the_row_has_no_runs(self):
        self.assertIsNone(none_paper(BOUNDS, (), HEARD[:1]))
        self.assertEqual([is_none_paper(BOUNDS, (), HEARD[:1], thing) for thing in ((), ((0, 1), (0, 1)), ((1, 1), (1, 1)), ((1, 1), (0, 1)))],
                         [False] * 4)

    def test_empty_is_no_paper_of_as_many_items(self):
        self.assertEqual([is_none_paper(BOUNDS, (1, 1, 2), HEARD, ()), is_none_paper(BOUNDS, (2, 1, 2), HEARD, ())], [False, False])

    def test_nearly_papers(self):
        found = []
        for row, hearing in (((1,), ((0, 1), (3, 1))), ((1, 1), ((0, 1), (4, 1), (11, 1))), ((2, 1), ((0, 1), (8, 1), (10, 1)))):
            paper = none_paper(BOUNDS, row, hearing)
            things = list(nearly(paper)) + [tuple(told(fraction(part) * 3) for part in paper), tuple(told(fraction(part) / 7) for part in paper)]
            for thing in things:
                told_so = is_none_paper(BOUNDS, row, hearing, thing)
                self.assertIs(told_so, plain_is_none_paper(BOUNDS, row, hearing, thing), (row, hearing, thing))
                found.append(told_so)
        self.assertEqual(set(found), {True, False})

    def test_what_is_none(self):
        row, hearing = (1, 1, 2), HEARD
        paper = none_paper(BOUNDS, row, hearing)
        at = next(at for at, part in enumerate(paper) if part[0] > 0)
        n, d = paper[at]
        some = [paper[:at] + (part,) + paper[at + 1:] for part in ((-n, d), (2 * n, 2 * d), (n + d, d), n, (n, d, 1), [n, d], (0, 1))]
        some += [paper[:-1], paper + ((0, 1),), tuple((0, 1) for _ in paper), list(paper), (), paper[::-1], {}, deep(20)]
        self.assertEqual([is_none_paper(BOUNDS, row, hearing, thing) for thing in some + list(ODD)], [False] * (len(some) + len(ODD)))
        self.assertEqual([is_none_paper(BOUNDS, row, hearing, paper), is_none_paper(BOUNDS, (2, 1, 1), hearing, paper),
                          is_none_paper((4, (9, 1)) + BOUNDS[2:], row, hearing, paper)], [True, False, False])

    def test_a_sum_of_none_is_not_below_none(self):
        # Both INEQUALITIES about one mark: their mosts come to twice the shift, which here is 0.
        bounds = (4, (0, 1), (0, 1), 1, 2, 1)
        rules = inequalities(bounds, (1,), ((0, 1), (4, 1)))
        thing = tuple((1, 1) if sum(map(abs, factors)) == 2 and factors[0] != 0 else (0, 1) for factors, _ in rules)
        self.assertIs(is_none_paper(bounds, (1,), ((0, 1), (4, 1)), thing), False)

    def test_long_rows(self):
        bounds = (16, (1, 2), (3, 2), 2, 3, 2)
        row = (3, 2, 2, 3, 2) * 12
        moments = [16 * sum(row[:at]) for at in range(61)]
        for at, by in ((1, -15), (1, 30), (30, 19), (60, -5)):
            hearing = tuple((moment + (by if place >= at else 0), 1) for place, moment in enumerate(moments))
            paper = none_paper(bounds, row, hearing)
            self.assertIs(paper is None, telling_for(bounds, row, hearing) is not None)
            self.assertTrue(paper is None or plain_is_none_paper(bounds, row, hearing, paper))

    def test_equal_arguments_give_equal_papers(self):
        self.assertEqual(none_paper(BOUNDS, (1, 1, 2), HEARD), none_paper(BOUNDS, (1, 1, 2), tuple(list(HEARD))))


def plain_is_all_paper(bounds, hearing, thing):
    """As DOC.md tells it: which keys there have to be, and what has to stand there."""
    if type(thing) is not dict or not all(type(row) is tuple and all(type(run) is int for run in row) for row in thing):
        return False
    asked, rows = set(), [()]
    for row in rows:
        asked.add(row)
        if row not in thing or type(thing[row]) is not tuple or len(thing[row]) != 2 or type(thing[row][0]) is not str:
            return False
        word, shown = thing[row]
        heard = hearing[:len(row) + 1]
        if word == "fits":
            if not gives(bounds, row, shown, heard):
                return False
            rows += [row + (run,) for run in range(bounds[3], bounds[4] + 1)] if len(heard) < len(hearing) else []
        elif word != "none" or not plain_is_none_paper(bounds, row, heard, shown):
            return False
    return asked == set(thing)


class TestPapersOfAll(unittest.TestCase):
    """Promise 25, of 7: which ROWS FIT, all of them and no others."""

    def test_of_some_hearings(self):
        found = set()
        for bounds, _, hearing in some_asked(51, 120, 3):
            paper = all_paper(bounds, hearing)
            self.assertEqual(list(paper), sorted(paper))
            self.assertTrue(plain_is_all_paper(bounds, hearing, paper), (bounds, hearing))
            self.assertIs(is_all_paper(bounds, hearing, paper), True)
            self.assertIs(is_all_paper(bounds, hearing, dict(reversed(list(paper.items())))), True)
            rows = rows_of_paper(hearing, paper)
            self.assertIs(type(rows), list)
            self.assertEqual(rows, rows_that_fit(bounds, hearing), (bounds, hearing))
            found.add(min(len(rows), 3))
        self.assertEqual(found, {0, 1, 2, 3})

    def test_rows_of_a_paper_whose_keys_stand_in_any_order(self):
        bounds, hearing = (1, (9, 1), (0, 1), 1, 3, 1), ((0, 1), (3, 1), (6, 1))
        paper = all_paper(bounds, hearing)
        self.assertEqual(rows_of_paper(hearing, dict(reversed(list(paper.items())))), rows_that_fit(bounds, hearing))
        self.assertEqual(len(rows_of_paper(hearing, paper)), 9)

    def test_one_item(self):
        paper = all_paper(BOUNDS, HEARD[:1])
        self.assertEqual([list(paper), paper[()][0], rows_of_paper(HEARD[:1], paper)], [[()], "fits", [()]])

    def test_too_many(self):
        bounds = (1, (1000, 1), (0, 1), 1, 16, 1)
        for moments in ((0, 15, 30, 31), (0, 15, 30, 30)):
            with self.assertRaises(TooMany) as caught:
                all_paper(bounds, tuple((moment, 1) for moment in moments))
            self.assertEqual(caught.exception.most, 200)
        hearing = ((0, 1), (10, 1), (30, 1))
        paper = all_paper(bounds, hearing)
        self.assertEqual([len(rows_of_paper(hearing, paper)), len(paper)], [160, 1 + 16 + 160])

    def test_keys_that_are_none(self):
        paper = all_paper(BOUNDS, HEARD)
        for key in paper:
            self.assertIs(is_all_paper(BOUNDS, HEARD, {row: paper[row] for row in paper if row != key}), False)
        for key in ((1, 1, 1), (3,), (0,), (2, 1, 2, 1), [][:], 1, "", None, ((2,), 1), (2, "1"), (1, 1, True)):
            if type(key) is not list:
                for shown in (paper[()], paper[(1,)], ("none", ()), None):
                    self.assertIs(is_all_paper(BOUNDS, HEARD, {**paper, key: shown}), False, key)

    def test_truths_are_no_runs(self):
        paper = all_paper(BOUNDS, HEARD)
        for exchanged in ((1,), (2, 1), (1, 1), (2, 1, 2)):
            other = {tuple(True if run == 1 else run for run in row) if row == exchanged else row: paper[row] for row in paper}
            self.assertEqual(other, paper)
            self.assertIs(is_all_paper(BOUNDS, HEARD, other), False)

    def test_values_that_are_none(self):
        paper = all_paper(BOUNDS, HEARD)
        for key, (word, shown) in paper.items():
            for thing in itertools.chain(ODD, ((word,), (word, shown, shown), [word, shown], (word.upper(), shown), ("fits", None),
                                               ("none", None), ("fits", ((0, 1), ())), ("none", ()), (shown, word), (None, shown),
                                               ("fits" if word == "none" else "none", shown))):
                other = {**paper, key: thing}
                self.assertIs(is_all_paper(BOUNDS, HEARD, other), plain_is_all_paper(BOUNDS, HEARD, other), (key, thing))

    def test_nearly_values(self):
        hearing = ((0, 1), (4, 1))
        paper = all_paper(BOUNDS, hearing)
        found = []
        for key in paper:
            for thing in nearly(paper[key]):
                other = {**paper, key: thing}
                told_so = is_all_paper(BOUNDS, hearing, other)
                self.assertIs(told_so, plain_is_all_paper(BOUNDS, hearing, other), (key, thing))
                found.append(told_so)
        self.assertEqual(set(found), {True, False})

    def test_any_value(self):
        for thing in ODD + (deep(20), [((), None)], tuple(all_paper(BOUNDS, HEARD).items())):
            self.assertIs(is_all_paper(BOUNDS, HEARD, thing), False)

    def test_of_another_hearing(self):
        paper = all_paper(BOUNDS, HEARD)
        self.assertIs(is_all_paper(BOUNDS, HEARD[:3], paper), False)
        self.assertIs(is_all_paper(BOUNDS, HEARD + ((50, 1),), paper), False)
        self.assertIs(is_all_paper((5,) + BOUNDS[1:], HEARD, paper), False)

    def test_what_is_returned_is_new(self):
        paper = all_paper(BOUNDS, HEARD)
        paper.clear()
        self.assertEqual(len(all_paper(BOUNDS, HEARD)), 9)


if __name__ == "__main__":
    unittest.main()

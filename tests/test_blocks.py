import random
import time
import unittest

from flutterheld.blocks import block_of_number, block_of_row, full_row, is_block, number_of_block, width_of
from flutterheld.counts import bits_of, many_bodies
from flutterheld.forms import is_full
from flutterheld.ranks import body_at, number_of
from tests.plain import ODD, deep, nearly, some_row

STILL = (4, (0, 1), (0, 1), 1, 2, 1)
FORM = (STILL, 42, 1, 0)
WIDE = ((60, (1, 2), (1, 1), 2, 3, 2), 240, 10, 5)
MIDDLE = ((60, (1, 2), (1, 1), 2, 3, 2), 80, 2, 1)
FORMS = (FORM, WIDE, MIDDLE)


def plain_number(form, block):
    """The NUMBER as DOC.md tells it, digit by digit."""
    epoch, deed, part, is_last, place, word = block
    number = ((epoch * 256 + deed) * 64 + part) * 2 + (1 if is_last else 0)
    number = number * (form[2] + form[3]) + place
    for symbol in word:
        number = number * 97 + symbol
    return number


def plain_is_block(form, thing):
    if type(thing) is not tuple or len(thing) != 6 or type(thing[3]) is not bool or type(thing[5]) is not tuple:
        return False
    for at, most in ((0, 63), (1, 255), (2, 63), (4, form[2] + form[3] - 1)):
        if type(thing[at]) is not int or not 0 <= thing[at] <= most:
            return False
    return len(thing[5]) == width_of(form) and all(type(symbol) is int and 0 <= symbol <= 96 for symbol in thing[5])


def some_block(chance, form):
    word = tuple(chance.choice((0, 96, chance.randint(0, 96))) for _ in range(width_of(form)))
    return (chance.randint(0, 63), chance.randint(0, 255), chance.randint(0, 63), chance.random() < 0.5,
            chance.randrange(form[2] + form[3]), word)


def least_and_greatest(form):
    width = width_of(form)
    return ((0, 0, 0, False, 0, (0,) * width), (63, 255, 63, True, form[2] + form[3] - 1, (96,) * width))


class TestWidth(unittest.TestCase):
    """Promise 29: the WIDTH of any FORMAT."""

    def test_by_its_words(self):
        found = set()
        for lo, most in ((1, 2), (2, 3), (1, 16), (3, 4), (7, 16), (16, 16)):
            for data in (1, 2, 20, 41, 42, 43, 60, 100, 170, 240):
                for many, spare in ((1, 0), (2, 1), (10, 5)):
                    bounds = (9, (0, 1), (0, 1), lo, most, 1)
                    bits = bits_of(bounds, data)
                    head = 64 * 256 * 64 * 2 * (many + spare)
                    plain = 0 if bits is None else max([0] + [w for w in range(60) if head * 97 ** w <= 2 ** bits])
                    self.assertEqual(width_of((bounds, data, many, spare)), plain)
                    found.add(plain)
        self.assertGreater(len(found), 12)

    def test_just_as_many(self):
        # Just 2 ** BITS BODIES, of which all and all but one would be needed.
        self.assertEqual([width_of((STILL, data, 1, 0)) for data in (41, 42)], [0, 1])
        bounds = (9, (0, 1), (0, 1), 1, 240, 1)
        # 21 bits are the head; 97 asks for 7 more.
        self.assertEqual([width_of((bounds, data, 1, 0)) for data in (27, 28, 29, 30, 35, 36)], [0, 0, 1, 1, 1, 2])
        self.assertEqual([width_of((bounds, 29, 1, 1)), width_of((bounds, 30, 1, 1)), width_of((bounds, 30, 1, 2))], [0, 1, 0])

    def test_no_bodies(self):
        self.assertEqual([width_of(((9, (0, 1), (0, 1), 7, 7, 1), data, 1, 0)) for data in (1, 239, 238)], [0, 0, 0])


class TestIsBlock(unittest.TestCase):
    """Promise 29: is_block of any value."""

    def test_nearly_blocks(self):
        chance = random.Random(80)
        found = []
        for form in FORMS:
            blocks = least_and_greatest(form) + (some_block(chance, form),)
            for block in blocks:
                # A long word is changed at its ends.
                for thing in [block] + list(nearly(block[:5] + (block[5][:1],))) + list(nearly(block[:5] + (block[5],)))[:20000]:
                    told_so = is_block(form, thing)
                    self.assertIs(told_so, plain_is_block(form, thing), thing)
                    found.append(told_so)
        self.assertEqual(set(found), {True, False})

    def test_is_last_is_a_truth(self):
        self.assertEqual([is_block(FORM, (1, 2, 3, last, 0, (4,))) for last in (True, False, 1, 0, None, "")], [True, True] + [False] * 4)

    def test_truths_are_no_digits(self):
        self.assertEqual([is_block(MIDDLE, thing) for thing in (
            (1, 1, 1, True, 1, (1,)), (True, 1, 1, True, 1, (1,)), (1, True, 1, True, 1, (1,)), (1, 1, True, True, 1, (1,)),
            (1, 1, 1, True, True, (1,)), (1, 1, 1, True, 1, (True,)))], [width_of(MIDDLE) == 1] + [False] * 5)

    def test_beyond_the_digits(self):
        least, greatest = least_and_greatest(FORM)
        for at in (0, 1, 2, 4):
            for block, other in ((least, -1), (greatest, greatest[at] + 1)):
                self.assertIs(is_block(FORM, block), True)
                self.assertIs(is_block(FORM, block[:at] + (other,) + block[at + 1:]), False)
        for word in ((), (0, 0), (97,), (-1,), [0], 0, None):
            self.assertIs(is_block(FORM, least[:5] + (word,)), False)

    def test_any_value(self):
        for thing in ODD + (deep(20), [0, 0, 0, False, 0, (0,)], (0, 0, 0, False, 0), FORM):
            self.assertIs(is_block(FORM, thing), False)


class TestNumbers(unittest.TestCase):
    """Promise 29: BLOCKS and NUMBERS, back and forth."""

    def test_some(self):
        chance = random.Random(81)
        for form in FORMS:
            for block in [some_block(chance, form) for _ in range(60)] + list(least_and_greatest(form)):
                number = number_of_block(form, block)
                self.assertEqual(number, plain_number(form, block))
                back = block_of_number(form, number)
                self.assertEqual(back, block)
                self.assertIs(type(back[3]), bool)
                self.assertIs(is_block(form, back), True)

    def test_the_least_and_the_greatest(self):
        for form in FORMS:
            least, greatest = least_and_greatest(form)
            many = 64 * 256 * 64 * 2 * (form[2] + form[3]) * 97 ** width_of(form)
            self.assertEqual([number_of_block(form, least), number_of_block(form, greatest)], [0, many - 1])
            self.assertEqual([block_of_number(form, 0), block_of_number(form, many - 1)], [least, greatest])
            self.assertEqual([block_of_number(form, number) for number in (many, many + 1, 2 * many, 10 ** 200)], [None] * 4)
            self.assertLessEqual(many, many_bodies(form[0], form[1]))

    def test_each_number_is_one_more(self):
        one = (1, 2, 3, False, 0, (96,))
        self.assertEqual(block_of_number(FORM, number_of_block(FORM, one) + 1), (1, 2, 3, True, 0, (0,)))
        one = (1, 255, 63, True, 0, (96,))
        self.assertEqual(block_of_number(FORM, number_of_block(FORM, one) + 1), (2, 0, 0, False, 0, (0,)))


class TestRows(unittest.TestCase):
    """Promise 29: FULL ROWS and BLOCKS, back and forth."""

    def test_some(self):
        chance = random.Random(82)
        start = time.process_time()
        for form in FORMS:
            bounds, lead = form[0], form[0][5]
            for block in [some_block(chance, form) for _ in range(20)] + list(least_and_greatest(form)):
                row = full_row(form, block)
                self.assertTrue(is_full(form, row))
                body = row[lead:-lead]
                self.assertEqual(number_of(bounds, form[1], body), plain_number(form, block))
                self.assertEqual(block_of_row(form, row), block)
        self.assertLess(time.process_time() - start, 3)

    def test_a_full_row_of_no_block(self):
        for form in FORMS:
            bounds, data = form[:2]
            lead = (bounds[4],) * bounds[5]
            many = 64 * 256 * 64 * 2 * (form[2] + form[3]) * 97 ** width_of(form)
            for number in (many, many_bodies(bounds, data) - 1):
                row = lead + body_at(bounds, data, number) + lead
                self.assertTrue(is_full(form, row))
                self.assertIsNone(block_of_row(form, row))
            self.assertEqual(block_of_row(form, lead + body_at(bounds, data, many - 1) + lead), least_and_greatest(form)[1])

    def test_any_row(self):
        chance = random.Random(83)
        block = (0, 0, 0, False, 0, (5,))
        row = full_row(FORM, block)
        self.assertEqual(block_of_row(FORM, row), block)
        others = [(), (2,), (2, 2), row[1:], row[:-1], row + (2,), (2,) + row, (1,) + row[1:], row[:-1] + (1,), row[:5] + row[6:]]
        others += [some_row(chance, STILL, many) for many in range(60)]
        self.assertEqual([block_of_row(FORM, other) for other in others], [None] * len(others))


if __name__ == "__main__":
    unittest.main()

"""BLOCKS: what a SLOT tells, packed into the number of a BODY.

A BLOCK is a tuple (epoch, deed, part, is_last, place, word). Its NUMBER has these as digits, the uppermost one first.
"""

from flutterheld.counts import bits_of
from flutterheld.forms import is_full, is_integer, is_tuple_of, lead_of
from flutterheld.ranks import body_at, number_of

EPOCHS = 64
DEEDS = 256
PARTS = 64
SYMBOLS = 97


def bases_of(form, width):
    """The bases of the digits of a NUMBER, the uppermost one first."""
    return (EPOCHS, DEEDS, PARTS, 2, form[2] + form[3]) + (SYMBOLS,) * width


def many_numbers(form, width):
    """How many NUMBERS there are with words of so many SYMBOLS."""
    many = 1
    for base in bases_of(form, width):
        many = many * base
    return many


def width_of(form):
    """The WIDTH of any FORMAT."""
    bits = bits_of(form[0], form[1])
    if bits is None:
        return 0
    width, many = 0, many_numbers(form, 1)
    while many <= 1 << bits:
        width += 1
        many = many * SYMBOLS
    return width


def is_digit(base, thing):
    return is_integer(thing) and 0 <= thing < base


def is_block(form, thing):
    """Whether any value is a BLOCK."""
    if not is_tuple_of(6, thing):
        return False
    epoch, deed, part, is_last, place, word = thing
    if not isinstance(is_last, bool) or not isinstance(word, tuple):
        return False
    width = width_of(form)
    digits = (epoch, deed, part, int(is_last), place) + word
    return len(word) == width and all([is_digit(base, digit) for base, digit in zip(bases_of(form, width), digits)])


def number_of_block(form, block):
    epoch, deed, part, is_last, place, word = block
    number = 0
    for base, digit in zip(bases_of(form, len(word)), (epoch, deed, part, int(is_last), place) + word):
        number = number * base + digit
    return number


def block_of_number(form, number):
    """The BLOCK with a NUMBER from 0 on, None if there is none."""
    digits, left = [], number
    for base in bases_of(form, width_of(form))[::-1]:
        digits.append(left % base)
        left = left // base
    if left > 0:
        return None
    epoch, deed, part, last, place, *word = digits[::-1]
    return (epoch, deed, part, last == 1, place, tuple(word))


def full_row(form, block):
    """The FULL ROW whose BODY has the NUMBER of a BLOCK."""
    bounds, data = form[:2]
    return lead_of(bounds) + body_at(bounds, data, number_of_block(form, block)) + lead_of(bounds)


def block_of_row(form, row):
    """The BLOCK of a FULL ROW, None if any ROW is no FULL ROW, or that of no BLOCK."""
    if not is_full(form, row):
        return None
    bounds, data = form[:2]
    lead = bounds[5]
    return block_of_number(form, number_of(bounds, data, row[lead:len(row) - lead]))

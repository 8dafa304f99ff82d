"""GROUPS: many WORDS are spread over many + spare places, and told by any many of these; and TEXTS, cut into PARTS.

The WORDS of a GROUP are the values of POLYNOMIALS of many coefficients, one for each index, at its places.
"""

from flutterheld.blocks import PARTS, SYMBOLS, is_digit, width_of
from flutterheld.errors import TooMany
from flutterheld.fields import field_sum, value_of, weighed, weights_at, with_zero
from flutterheld.forms import is_tuple_of

# The signs of a TEXT, each one at the place that is its SYMBOL.
SIGNS = " !\"#$&'()*+,-./0123456789:;<=>?@ABCDEFGHIJKLMNOPQRSTUVWXYZ[\\]^_`abcdefghijklmnopqrstuvwxyz{|}~\n"
# What stands behind the last sign.
FILLING = 96


def is_word(width, thing):
    return is_tuple_of(width, thing) and all([is_digit(SYMBOLS, part) for part in thing])


def words_from(known, places, many):
    """The WORDS at the places 0, 1, .., so many, of the one GROUP that has the known WORDS of these places."""
    words = [known[place] for place in places]
    found = []
    for at in range(many):
        weights = weights_at(places, at)
        found.append(tuple([weighed(weights, symbols) for symbols in zip(*words)]))
    return tuple(found)


def spread(form, words):
    """The one GROUP that begins with many WORDS."""
    known = {place: word for place, word in enumerate(words)}
    return words_from(known, list(known), form[2] + form[3])


def is_group(form, thing):
    """Whether any value is a GROUP."""
    many, spare = form[2:]
    width = width_of(form)
    if not is_tuple_of(many + spare, thing) or not all([is_word(width, part) for part in thing]):
        return False
    return spread(form, thing[:many]) == thing


def restored(form, known):
    """The first many WORDS, by the many least places that are known; None if fewer are known."""
    many = form[2]
    if len(known) < many:
        return None
    return words_from(known, sorted(known)[:many], many)


def agree(form, known):
    """Whether some GROUP has all known WORDS."""
    many, spare = form[2:]
    # By many places or fewer a GROUP is there always.
    group = words_from(known, sorted(known)[:many], many + spare)
    return all([group[place] == known[place] for place in known])


def twin_groups(form, known):
    """Two GROUPS that have all known WORDS, fewer than many, and are unlike at each other place."""
    many, spare = form[2:]
    chosen = {place: known[place] for place in known}
    for place in range(many + spare):
        if len(chosen) < many and place not in chosen:
            chosen[place] = (0,) * width_of(form)
    one = words_from(chosen, sorted(chosen), many + spare)
    zero = (1,)
    for place in sorted(known):
        zero = with_zero(zero, place)
    # What is added is 0 just at the known places.
    added = [value_of(zero, place) for place in range(many + spare)]
    return (one, tuple([tuple([field_sum(symbol, more) for symbol in word]) for word, more in zip(one, added)]))


def is_text(thing):
    """Whether any value is a TEXT, however long."""
    return isinstance(thing, str) and all([sign in SIGNS for sign in thing])


def signs_in_part(form):
    return form[2] * width_of(form)


def signs_in(form):
    """How many signs the most PARTS hold."""
    return PARTS * signs_in_part(form)


def many_parts(form, signs):
    """How many PARTS a TEXT of so many signs has."""
    return max(1, -(-signs // signs_in_part(form)))


def parts_of(form, text):
    """The PARTS of a TEXT: as few as hold all its signs, but at least one."""
    parts = many_parts(form, len(text))
    if parts > PARTS:
        raise TooMany(PARTS)
    many, width = form[2], width_of(form)
    symbols = [SIGNS.index(sign) for sign in text] + [FILLING] * (parts * many * width - len(text))
    words = [tuple(symbols[at:at + width]) for at in range(0, len(symbols), width)]
    return tuple([tuple(words[at:at + many]) for at in range(0, len(words), many)])


def text_of(form, parts):
    """The TEXT of which these are the PARTS, None if there is none."""
    if len(parts) > PARTS:
        return None
    symbols = [symbol for part in parts for word in part for symbol in word]
    while symbols and symbols[-1] == FILLING:
        symbols.pop()
    if not all([symbol < len(SIGNS) for symbol in symbols]):
        return None
    text = "".join([SIGNS[symbol] for symbol in symbols])
    # There may be more filling, or less, than this TEXT asks for.
    return text if parts_of(form, text) == parts else None

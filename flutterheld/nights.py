"""NIGHTS: how each SLOT of a REEL is heard: by which TELLING, how far off each MARK, and with which HARM."""

from flutterheld.forms import are_fractions, is_telling, is_tuple_of
from flutterheld.fractions import added, compared, negated, size_of, times, whole
from flutterheld.harms import is_harm_of, is_mild
from flutterheld.hearings import hearing_of
from flutterheld.rides import steady
from flutterheld.rows import length_of

NO_HARM = ("missed", ())


def is_night(form, reel, thing):
    """Whether any value is a NIGHT of a FORMAT and a REEL."""
    if not is_tuple_of(len(reel), thing):
        return False
    return all([is_night_of_slot(form[0], slot, one) for slot, one in zip(reel, thing)])


def is_night_of_slot(bounds, slot, thing):
    if slot is None:
        return thing is None
    if not is_tuple_of(3, thing):
        return False
    telling, shifts, harm = thing
    if not is_telling(bounds, telling) or len(telling[1]) != length_of(slot):
        return False
    if not are_fractions(shifts) or len(shifts) != len(slot) + 1:
        return False
    if not all([compared(size_of(shift), bounds[2]) <= 0 for shift in shifts]):
        return False
    return is_harm_of(hearing_of(telling, slot, shifts), harm)


def is_mild_night(form, reel, night):
    """Whether all HARMS of a NIGHT are MILD."""
    return all([slot is None or is_mild(form, slot, hearing_of(one[0], slot, one[1]), one[2])
                for slot, one in zip(reel, night)])


def even_night(form, reel):
    """The NIGHT in which each cell lasts just cell, and nothing is heard otherwise than it is."""
    cell = whole(form[0][0])
    return tuple([None if slot is None
                  else (steady((0, 1), cell, length_of(slot)), ((0, 1),) * (len(slot) + 1), NO_HARM)
                  for slot in reel])


def swayed(bounds, cells, high, by):
    """A RIDE that goes up and down as quickly as it may, by high times drift."""
    heights = [height_at(cell + by, high) for cell in range(cells)]
    return tuple([added(whole(bounds[0]), times(bounds[1], whole(height))) for height in heights])


def height_at(way, high):
    """How high one is behind so much way up to high and down to 0 by turns."""
    if high == 0:
        return 0
    height = way % (2 * high)
    return height if height <= high else 2 * high - height


def swayed_night(form, reel, high, by):
    """The NIGHT in which all RIDES are swayed, and MARKS are heard as late and as early as may be, by turns."""
    bounds = form[0]
    late, early = bounds[2], negated(bounds[2])
    return tuple([None if slot is None
                  else (((0, 1), swayed(bounds, length_of(slot), high, by)),
                        tuple([late if mark % 2 == 0 else early for mark in range(len(slot) + 1)]), NO_HARM)
                  for slot in reel])

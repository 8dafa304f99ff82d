"""What is heard of a REEL in a NIGHT, and what of it is sure."""

from flutterheld.blockread import row_told
from flutterheld.counts import all_bodies, many_bodies
from flutterheld.errors import TooMany
from flutterheld.forms import is_full, lead_of
from flutterheld.harms import harmed
from flutterheld.hearings import heard_back, hearing_of
from flutterheld.tellings import do_fit

MOST_TRIED = 300


def heard_slot(slot, one):
    """The HEARING of a SLOT that is not None, by its item of a NIGHT."""
    telling, shifts, harm = one
    return harmed(hearing_of(telling, slot, shifts), harm)


def heard_reel(reel, night):
    """The tuple of the HEARINGS of all SLOTS."""
    return tuple([() if slot is None else heard_slot(slot, one) for slot, one in zip(reel, night)])


def heard_reel_back(reel, night):
    """As heard_reel, of a REEL that runs backward: the last SLOT's first, each one turned."""
    return tuple([heard_back(hearing) for hearing in heard_reel(reel, night)[::-1]])


def whole_slots(form, reel, night):
    """The LOT of the indexes of the SLOTS that hold FULL ROWS, with no HARM."""
    return tuple([index for index, slot in enumerate(reel) if is_full(form, slot) and night[index][2][1] == ()])


def rows_told(form, reel, night):
    """The tuple of the FULL ROWS that FIT what is heard of each SLOT, None where none does."""
    return tuple([row_told(form, hearing) for hearing in heard_reel(reel, night)])


def fits_none(form, slot, one):
    """Whether no FULL ROW of the FORMAT FITS what is heard of one of them, by going through all."""
    bounds, data = form[:2]
    if many_bodies(bounds, data) > MOST_TRIED:
        raise TooMany(MOST_TRIED)
    heard = heard_slot(slot, one)
    lead = lead_of(bounds)
    return not any([do_fit(bounds, lead + body + lead, heard) for body in all_bodies(bounds, data)])

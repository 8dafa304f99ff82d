"""BLINDS: what BOUNDS that are not WATCHFUL do not notice."""

from flutterheld.forms import is_hearing, is_led, is_row, is_run, is_tuple_of, lead_of
from flutterheld.fractions import compared, whole
from flutterheld.harms import gap_margin, is_watchful
from flutterheld.hearings import gives
from flutterheld.rides import mark_moments, steady
from flutterheld.rows import length_of
from flutterheld.slips import heard_alike
from flutterheld.sure import is_sure


def blind_of(bounds):
    """A BLIND of BOUNDS, SURE or not, None if there is none."""
    lo, most = bounds[3], bounds[4]
    if 2 * lo <= most:
        return blind_of_one_telling(bounds)
    if compared(gap_margin(bounds), (0, 1)) > 0:
        return None
    row, telling, other, hearing = heard_alike(bounds, most, 2 * lo)
    return (row, most, (lo, lo), telling, other, hearing)


def blind_of_one_telling(bounds):
    """A BLIND where two RUNS come to another one: the marks of both stand at the same cells."""
    lo, row = bounds[3], lead_of(bounds)
    heard = row + (2 * lo,)
    telling = steady((0, 1), whole(bounds[0]), length_of(heard))
    return (row, 2 * lo, (lo, lo), telling, telling, mark_moments(telling, heard))


def is_blind(bounds, thing):
    """Whether any value is a BLIND of BOUNDS."""
    if not is_tuple_of(6, thing):
        return False
    row, run, runs, telling, other, hearing = thing
    if not is_led(bounds, row) or not is_run(bounds, run) or not is_row(bounds, runs) or len(runs) < 2:
        return False
    if not is_hearing(hearing):
        return False
    return gives(bounds, row + (run,), telling, hearing) and gives(bounds, row + (length_of(runs),), other, hearing)


def worst_of(bounds):
    """The word for what BOUNDS are."""
    if is_watchful(bounds):
        return "watchful"
    return "sure" if is_sure(bounds) else "unsure"

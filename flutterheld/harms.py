"""HARMS: marks that are missed, clicks that are heard, and which BOUNDS notice them."""

from flutterheld.forms import is_full, is_harm
from flutterheld.fractions import compared, floor_of, least_of, lessened, merged, over, sum_of, times, whole
from flutterheld.pull import pull
from flutterheld.sure import is_sure, lead_below, least_cell, pull_borne


def gap_margin(bounds):
    cell, lo, most = bounds[0], bounds[3], bounds[4]
    return lessened(whole((2 * lo - most) * cell), gap_asked(bounds, pull(bounds)))


def gap_asked(bounds, drawn):
    """What 2 * lo - most cells of WATCHFUL BOUNDS are above, if PULL is drawn."""
    drift, shift, most = bounds[1], bounds[2], bounds[4]
    return sum_of([times(whole(4), shift), times(whole(most), drawn), times(drift, whole(most * (most + 1)))])


def is_watchful(bounds):
    return is_sure(bounds) and 2 * bounds[3] > bounds[4] and compared(gap_margin(bounds), (0, 1)) > 0


def least_watchful_cell(drift, shift, lo, most, lead):
    """The least cell with which these make WATCHFUL BOUNDS, None if there is none."""
    if 2 * lo <= most:
        return None
    bounds = (1, drift, shift, lo, most, lead)
    asked = over(gap_asked(bounds, pull(bounds)), whole(2 * lo - most))
    return max(least_cell(drift, shift, lo, most, lead), floor_of(asked) + 1)


def least_watchful_lead(cell, drift, shift, lo, most):
    """The least lead with which these make WATCHFUL BOUNDS, None if there is none."""
    if 2 * lo <= most:
        return None
    left = lessened(whole((2 * lo - most) * cell), gap_asked((cell, drift, shift, lo, most, 1), (0, 1)))
    limit = over(left, whole(most))
    if lo < most:
        limit = least_of([limit, pull_borne(cell, drift, shift, most)])
    return lead_below(drift, shift, lo, most, limit)


def is_harm_of(hearing, thing):
    """Whether any value is a HARM that misses no mark which the HEARING has not."""
    if not is_harm(thing):
        return False
    word, harmed_by = thing
    return word == "clicks" or all([index < len(hearing) for index in harmed_by])


def harmed(hearing, harm):
    """The HEARING that is heard under a HARM of it."""
    word, harmed_by = harm
    if word == "clicks":
        return tuple(merged(hearing, harmed_by))
    return tuple([moment for index, moment in enumerate(hearing) if index not in harmed_by])


def is_mild(form, slot, hearing, thing):
    """Whether any value is a MILD HARM of a BEGINNING of which this is a HEARING."""
    if not is_harm_of(hearing, thing):
        return False
    word, harmed_by = thing
    if harmed_by == ():
        return True
    if word == "missed":
        return are_missed_mildly(form, slot, harmed_by)
    return is_full(form, slot) and are_clicks_mild(form[0][5], hearing, harmed_by)


def are_missed_mildly(form, slot, lot):
    """Of a short BEGINNING any; otherwise the LEAD, or, of a FULL ROW, the TAIL stays whole."""
    lead, marks = form[0][5], len(slot) + 1
    if marks <= lead or lot[0] > lead:
        return True
    return is_full(form, slot) and lot[-1] < marks - lead - 1


def are_clicks_mild(lead, hearing, clicks):
    """All behind the LEAD's last mark, or all ahead of the TAIL's first one."""
    return compared(clicks[0], hearing[lead]) > 0 or compared(clicks[-1], hearing[-1 - lead]) < 0

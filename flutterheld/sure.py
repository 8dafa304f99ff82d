"""SURE BOUNDS: those by which the next RUN is known as soon as its mark is heard."""

from flutterheld.fractions import added, compared, floor_of, lessened, over, sum_of, times, whole
from flutterheld.pull import pull, turn


def margin(bounds):
    """By how much the cell is above what SURE BOUNDS ask for."""
    return lessened(whole(bounds[0]), cell_asked(bounds))


def cell_asked(bounds):
    """What the cell of SURE BOUNDS is above, if lo is not most; it does not hang on the cell itself."""
    drift, shift, most = bounds[1], bounds[2], bounds[4]
    drawn = times(whole(most - 1), pull(bounds))
    return sum_of([times(whole(4), shift), drawn, times(drift, whole(most * (most - 1)))])


def is_sure(bounds):
    return bounds[3] == bounds[4] or compared(margin(bounds), (0, 1)) > 0


def least_cell(drift, shift, lo, most, lead):
    """The least cell with which these make SURE BOUNDS."""
    if lo == most:
        return 1
    return floor_of(cell_asked((1, drift, shift, lo, most, lead))) + 1


def least_lead(cell, drift, shift, lo, most):
    """The least lead with which these make SURE BOUNDS, None if there is none."""
    if lo == most:
        return 1
    return lead_below(drift, shift, lo, most, pull_borne(cell, drift, shift, most))


def pull_borne(cell, drift, shift, most):
    """What the PULL of SURE BOUNDS is below, most being from 2 on."""
    taken = added(times(whole(4), shift), times(drift, whole(most * (most - 1))))
    return over(lessened(whole(cell), taken), whole(most - 1))


def lead_below(drift, shift, lo, most, limit):
    """The least lead with which PULL is below a limit, None if there is none."""
    turning = turn((1, drift, shift, lo, most, 1))
    if turning is None:
        return lead_without_turn(shift, most, limit)
    # PULL never grows with the lead, and stays as it is once lead * most is above the turn.
    low, high = 1, turning // most + 1
    if compared(pull((1, drift, shift, lo, most, high)), limit) >= 0:
        return None
    while low < high:
        middle = (low + high) // 2
        if compared(pull((1, drift, shift, lo, most, middle)), limit) < 0:
            high = middle
        else:
            low = middle + 1
    return low


def lead_without_turn(shift, most, limit):
    """As lead_below, where PULL is 4 * shift / (lead * most): it comes as near to 0 as one likes, but not to it."""
    if compared(limit, (0, 1)) <= 0:
        return None
    return floor_of(over(times(whole(4), shift), times(whole(most), limit))) + 1

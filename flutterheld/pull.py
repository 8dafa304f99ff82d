"""PULL: how far a hearing can be drawn off what was written, by all the marks so far."""

from math import isqrt

from flutterheld.errors import TooMany
from flutterheld.forms import lead_of
from flutterheld.fractions import ceil_of, compared, greatest_of, least_of, over, reduced, times, whole
from flutterheld.rows import distances_of, rows_over

MOST_TURN = 1000


def phi(bounds, t):
    """4 * shift / t + drift * (t - 1)."""
    drift, shift = bounds[1], bounds[2]
    # Put over one d at once, as this is asked of each DISTANCE of each ROW.
    n = 4 * shift[0] * drift[1] + drift[0] * shift[1] * t * (t - 1)
    return reduced(n, drift[1] * shift[1] * t)


def strain(bounds, row):
    """The least PHI of the DISTANCES of a ROW with at least one RUN."""
    return least_of([phi(bounds, t) for t in distances_of(row)])


def turn(bounds):
    """The least t from 1 on with PHI(t) at most PHI(t + 1), None if PHI falls for ever."""
    drift, shift = bounds[1], bounds[2]
    if shift[0] == 0:
        return 1
    if drift[0] == 0:
        return None
    # PHI(t) is at most PHI(t + 1) just if t * (t + 1) is at least 4 * shift / drift.
    asked = ceil_of(over(times(whole(4), shift), drift))
    t = (isqrt(4 * asked + 1) - 1) // 2
    if t * (t + 1) < asked:
        t += 1
    return t


def is_sum_of_runs(bounds, cells):
    """Whether some RUNS come to so many cells, from 1 on: the fewest that reach them do, if any do."""
    fewest = -(-cells // bounds[4])
    return fewest * bounds[3] <= cells


def runs_to(bounds, cells):
    """RUNS that come to so many cells, which are 0 or a sum of RUNS."""
    lo, most = bounds[3], bounds[4]
    runs = []
    left = cells
    for behind in reversed(range(-(-cells // most))):
        run = min(most, left - behind * lo)
        runs.append(run)
        left -= run
    return tuple(runs)


def leaps_of(bounds):
    """Tuples (u, strain) of LED ROWS, the LEAD and RUNS that come to u, of which one has the greatest STRAIN."""
    most, lead = bounds[4], bounds[5]
    turning = turn(bounds)
    if turning is None:
        return [(0, phi(bounds, lead * most))]
    leaps = [(0, phi(bounds, lead * most))] if lead * most <= turning else []
    for u in range(max(0, turning - most + 1), turning + 1):
        if u == 0:
            leaps.append((0, phi(bounds, most)))
        elif is_sum_of_runs(bounds, u):
            leaps.append((u, least_of([phi(bounds, u), phi(bounds, u + most)])))
    return leaps


def pull(bounds):
    """The greatest STRAIN of all LED ROWS."""
    return greatest_of([strained for _, strained in leaps_of(bounds)])


def pull_row(bounds):
    """A LED ROW whose STRAIN is PULL."""
    turning = turn(bounds)
    if turning is not None and turning > MOST_TURN:
        raise TooMany(MOST_TURN)
    greatest = pull(bounds)
    found = [u for u, strained in leaps_of(bounds) if compared(strained, greatest) == 0]
    return lead_of(bounds) + runs_to(bounds, found[0])


def pull_by_rows(bounds, cells):
    """The greatest STRAIN of all LED ROWS with at most so many cells behind the LEAD."""
    lead = lead_of(bounds)
    rows = [lead + row for many in range(cells + 1) for row in rows_over(bounds, many)]
    return greatest_of([strain(bounds, row) for row in rows])

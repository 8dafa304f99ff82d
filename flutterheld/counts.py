"""Counts of BODIES: ROWS with a told number of cells."""

from flutterheld.errors import TooMany
from flutterheld.rows import length_of

MOST_BODIES = 2000


def many_bodies(bounds, data):
    return counts_to(bounds, data)[data]


def counts_to(bounds, data):
    """The tuple of the numbers of BODIES with 0, 1, .. data cells."""
    lo, most = bounds[3], bounds[4]
    counts, behind = [1], 0
    for cells in range(1, data + 1):
        # Behind a first RUN stands a BODY with lo, .. or most cells less: the sum of these goes along.
        if cells >= lo:
            behind += counts[cells - lo]
        if cells > most:
            behind -= counts[cells - most - 1]
        counts.append(behind)
    return tuple(counts)


def bits_of(bounds, data):
    """The BITS, None if there are no BODIES."""
    return bits_in(many_bodies(bounds, data))


def bits_in(many):
    """The greatest b with 2 ** b at most many, None if many is 0."""
    return many.bit_length() - 1 if many > 0 else None


def is_begun(bounds, data, row):
    """Whether some BODY begins with a ROW, perhaps being it."""
    left = data - length_of(row)
    return left >= 0 and many_bodies(bounds, left) > 0


def all_bodies(bounds, data):
    """The ascending list of all BODIES."""
    counts = counts_to(bounds, data)
    if counts[data] > MOST_BODIES:
        raise TooMany(MOST_BODIES)
    bodies, rows = [], [((), data)]
    while rows:
        row, left = rows.pop()
        if left == 0:
            bodies.append(row)
        # The last one put there is gone on with first, so the least RUN comes last.
        for run in reversed(range(bounds[3], min(bounds[4], left) + 1)):
            if counts[left - run] > 0:
                rows.append((row + (run,), left - run))
    return bodies

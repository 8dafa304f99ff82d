"""HEARINGS: the moments at which MARKS are heard, and which TELLINGS give them."""

from flutterheld.forms import is_telling
from flutterheld.fractions import added, are_within, compared, in_order, lessened, negated, sum_of, times, whole
from flutterheld.rides import mark_moments
from flutterheld.rows import cells_of, length_of


def hearing_of(telling, row, shifts):
    """The HEARING in which each MARK is heard its own shift behind its moment."""
    return tuple(in_order([added(moment, shift) for moment, shift in zip(mark_moments(telling, row), shifts)]))


def gives(bounds, row, telling, hearing):
    """Whether a TELLING GIVES a HEARING for a row; False if it is no TELLING over as many cells."""
    if not is_telling(bounds, telling) or len(telling[1]) != length_of(row) or len(hearing) != len(row) + 1:
        return False
    moments = mark_moments(telling, row)
    return all([are_within(moment, heard, bounds[2]) for moment, heard in zip(moments, hearing)])


def heard_back(hearing):
    """The HEARING if the reel runs backward."""
    return tuple([negated(moment) for moment in hearing[::-1]])


def inequalities(bounds, row, hearing):
    """The INEQUALITIES that a TELLING keeps exactly if it GIVES the HEARING."""
    cells = length_of(row)
    return lasting_rules(bounds, cells) + drift_rules(bounds, cells) + mark_rules(bounds, row, hearing)


def lasting_rules(bounds, cells):
    return [(factors_at(cells, cell, (-1,)), whole(-bounds[0])) for cell in range(cells)]


def drift_rules(bounds, cells):
    rules = []
    for cell in range(cells - 1):
        rules.append((factors_at(cells, cell, (1, -1)), bounds[1]))
        rules.append((factors_at(cells, cell, (-1, 1)), bounds[1]))
    return rules


def mark_rules(bounds, row, hearing):
    shift, cells = bounds[2], length_of(row)
    rules = []
    for cell, moment in zip(cells_of(row), hearing):
        rules.append(((1,) * (1 + cell) + (0,) * (cells - cell), added(moment, shift)))
        rules.append(((-1,) * (1 + cell) + (0,) * (cells - cell), lessened(shift, moment)))
    return rules


def factors_at(cells, cell, some):
    """Factors for the begin and so many cells: these from this cell on, and 0 elsewhere."""
    return (0,) * (1 + cell) + some + (0,) * (cells - cell - len(some))


def is_kept(inequality, telling):
    """Whether the factors times the begin and the items of the ride come to at most the most."""
    factors, most = inequality
    begin, ride = telling
    parts = [times(whole(factor), part) for factor, part in zip(factors, (begin,) + ride) if factor != 0]
    return compared(sum_of(parts), most) <= 0

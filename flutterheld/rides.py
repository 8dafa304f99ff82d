"""TELLINGS: when the first cell begins, and how long each cell lasts."""

from flutterheld.fractions import added, negated
from flutterheld.rows import cells_of


def cell_moments(telling):
    """The moments at which the cells begin, and the one at which the last cell ends."""
    moment, ride = telling
    moments = [moment]
    for lasting in ride:
        moment = added(moment, lasting)
        moments.append(moment)
    return tuple(moments)


def mark_moments(telling, row):
    """The moments at which the CELLS of the MARKS of a row begin."""
    moments = cell_moments(telling)
    return tuple([moments[cell] for cell in cells_of(row)])


def told_back(telling):
    """The TELLING that is heard if the reel runs backward."""
    return (negated(cell_moments(telling)[-1]), telling[1][::-1])


def steady(begin, cell, many):
    return (begin, (cell,) * many)

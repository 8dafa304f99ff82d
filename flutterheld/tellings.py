"""TELLINGS by which a row is heard as a HEARING, found cell by cell.

The POLYGON at the end of a cell holds all that can be true there by the marks so far, so nothing that was heard ahead
has to be asked again.
"""

from flutterheld.fractions import added, greatest_of, least_of, lessened, times
from flutterheld.polygons import begun, coarsest, cut_to, cut_to_units, in_units, led_on, led_on_units, longs_at


def first_cell(bounds, heard, following):
    """The POLYGON at the end of the first cell, of a HEARING that begins with these two moments."""
    shift = bounds[2]
    longest = added(lessened(following, heard), times((2, 1), shift))
    return begun(bounds, lessened(heard, shift), added(heard, shift), longest)


def cut_about(bounds, polygon, moment):
    """What is left of a POLYGON if a mark is heard at a moment."""
    return cut_to(polygon, lessened(moment, bounds[2]), added(moment, bounds[2]))


def next_cell(bounds, ahead, heard, moment):
    """The POLYGON at the end of a cell, ahead being the one of the cell ahead of it, None for the first cell.

    The mark ahead of the cell was heard at the moment heard, the next one is heard at moment.
    """
    return first_cell(bounds, heard, moment) if ahead is None else led_on(bounds, ahead)


def polygons_of(bounds, row, hearing):
    """The list of the POLYGONS at the end of each cell."""
    polygons, polygon = [], None
    for run, heard, moment in zip(row, hearing, hearing[1:]):
        for _ in range(run):
            polygon = next_cell(bounds, polygon, heard, moment)
            polygons.append(polygon)
        polygon = polygons[-1] = cut_about(bounds, polygon, moment)
    return polygons


def telling_for(bounds, row, hearing):
    """A TELLING that GIVES the HEARING for a row, None if there is none."""
    # Asked ahead of all, so that the cells of a far gap are not gone through where it cannot be.
    if not do_fit(bounds, row, hearing):
        return None
    return telling_within(polygons_of(bounds, row, hearing), hearing)


def telling_within(polygons, hearing):
    """A TELLING that goes through these POLYGONS, one for each cell; None if nothing is left at last."""
    if not polygons:
        return (hearing[0], ())
    if polygons[-1] == ():
        return None
    moment, long = polygons[-1][0]
    ride = [long]
    for polygon in reversed(polygons[:-1]):
        moment = lessened(moment, long)
        # Some long within drift leads here, so the nearest one does.
        least, greatest = longs_at(polygon, moment)
        long = greatest_of([least, least_of([long, greatest])])
        ride.append(long)
    return (lessened(moment, long), tuple(ride[::-1]))


def fitting_runs(bounds, ahead, heard, moment, least, most):
    """Tuples (run, POLYGON in units) for each run from least to most whose mark may be heard at a moment.

    ahead is the POLYGON at the last mark, in units, None at the first one; heard is the moment at which that was heard.
    """
    earliest, latest = lessened(moment, bounds[2]), added(moment, bounds[2])
    units, found = ahead, []
    for run in range(1, most + 1):
        units = in_units(first_cell(bounds, heard, moment)) if units is None else led_on_units(bounds, units)
        # What is too late already is still later behind each further cell.
        if is_behind(units, latest):
            break
        if run >= least:
            left = cut_to_units(units, earliest, latest)
            if left[1]:
                found.append((run, coarsest(left)))
    return found


def is_behind(units, moment):
    """Whether all points of a POLYGON, in units, have a later moment; perhaps there are none."""
    unit, corners = units
    return not corners or corners[0][0] * moment[1] > moment[0] * unit


def last_polygon(bounds, row, hearing):
    """The POLYGON, in units, at the last mark: None ahead of the first cell, () if as many first items do not fit."""
    units = None
    for run, heard, moment in zip(row, hearing, hearing[1:]):
        found = fitting_runs(bounds, units, heard, moment, run, run)
        if not found:
            return ()
        units = found[0][1]
    return units


def do_fit(bounds, row, hearing):
    """Whether some TELLING GIVES the HEARING for a row."""
    return len(hearing) == len(row) + 1 and last_polygon(bounds, row, hearing) != ()

"""POLYGONS: how things may stand at the end of a cell, told by the corners of a convex part of the plane.

A CORNER is a tuple (moment, long): when the cell ends, and how long it lasted.
"""

from math import gcd, lcm

from flutterheld.fractions import added, compared, greatest_of, in_order_by, lessened, reduced, times, whole

MOMENT = 0
LONG = 1


def compared_corners(one, other):
    """-1, 0 or 1 as one CORNER is less than, alike, greater than another one."""
    by_moment = compared(one[MOMENT], other[MOMENT])
    return by_moment if by_moment != 0 else compared(one[LONG], other[LONG])


def turned_left(one, other, corner):
    """Whether the way from one to other turns to the left to go on to a third CORNER."""
    way, further = apart(one, other), apart(other, corner)
    return compared(times(way[MOMENT], further[LONG]), times(way[LONG], further[MOMENT])) > 0


def apart(one, other):
    """By how much another CORNER has a later moment, and a greater long."""
    return (lessened(other[MOMENT], one[MOMENT]), lessened(other[LONG], one[LONG]))


def polygon_of(corners):
    """The least POLYGON in which all CORNERS lie."""
    ordered = in_order_by(compared_corners, corners)
    unlike = [corner for at, corner in enumerate(ordered) if at == 0 or corner != ordered[at - 1]]
    if len(unlike) < 2:
        return tuple(unlike)
    return tuple(lower_side(unlike)[:-1] + lower_side(unlike[::-1])[:-1])


def lower_side(ordered):
    """The CORNERS, of such in order, from the first to the last one that leave all others on the left."""
    side = []
    for corner in ordered:
        while len(side) > 1 and not turned_left(side[-2], side[-1], corner):
            side.pop()
        side.append(corner)
    return side


def begun(bounds, low, high, longest):
    """The POLYGON at the end of a first cell that begins from low to high and lasts from cell to longest."""
    cell = whole(bounds[0])
    if compared(longest, cell) < 0:
        return ()
    return polygon_of([(added(begin, long), long) for begin in (low, high) for long in (cell, longest)])


def led_on(bounds, polygon):
    """The POLYGON at the end of a next cell."""
    return from_units(led_on_units(bounds, in_units(polygon)))


def cut_to(polygon, low, high):
    """The POLYGON of the points whose moment is from low to high."""
    return from_units(cut_to_units(in_units(polygon), low, high))


def in_units(polygon):
    """A POLYGON in units: the tuple of how many of them are 1, and the list of its CORNERS, told in them by integers.

    So nothing has to be reduced from cell to cell.
    """
    unit = 1
    for moment, long in polygon:
        unit = lcm(unit, moment[1], long[1])
    return (unit, [(moment[0] * (unit // moment[1]), long[0] * (unit // long[1])) for moment, long in polygon])


def from_units(units):
    unit, corners = units
    return tuple([(reduced(moment, unit), reduced(long, unit)) for moment, long in corners])


def finer(units, factor):
    """The same in units so many of which are one of these."""
    unit, corners = units
    if factor == 1:
        return units
    return (unit * factor, [(moment * factor, long * factor) for moment, long in corners])


def finer_for(units, one):
    """The same in units by which a FRACTION is told by an integer, too."""
    return finer(units, one[1] // gcd(units[0], one[1]))


def coarsest(units):
    """The same in the greatest units by which each number is still told by an integer."""
    unit, corners = units
    shared = unit
    for moment, long in corners:
        shared = gcd(shared, moment, long)
    return (unit // shared, [(moment // shared, long // shared) for moment, long in corners])


def led_on_units(bounds, units):
    """As led_on, in units."""
    drift = bounds[1]
    unit, corners = finer_for(units, drift)
    around = drifted(corners, drift[0] * (unit // drift[1]))
    unit, lasting = cut((unit, around), LONG, whole(bounds[0]), 1)
    return (unit, from_least([(moment + long, long) for moment, long in lasting]))


def cut_to_units(units, low, high):
    """As cut_to, in units."""
    unit, corners = cut(cut(units, MOMENT, low, 1), MOMENT, high, -1)
    return (unit, from_least(corners))


def drifted(corners, drift):
    """The CORNERS, met round it, of what is at most drift below or above the points of a part; all in units."""
    if drift == 0 or not corners:
        return corners
    lower, upper = sides_of(corners)
    return [(moment, long - drift) for moment, long in lower] + [(moment, long + drift) for moment, long in upper]


def sides_of(corners):
    """The CORNERS from the first moment to the last one, below, and back again, above; the least one comes first."""
    last = 0
    while last + 1 < len(corners) and corners[last][MOMENT] < corners[last + 1][MOMENT]:
        last += 1
    upper = corners[last:] + corners[:1]
    # Where a side goes straight up, only its upper end is above.
    if len(upper) > 1 and upper[0][MOMENT] == upper[1][MOMENT]:
        upper = upper[1:]
    if len(upper) > 1 and upper[-1][MOMENT] == upper[-2][MOMENT]:
        upper = upper[:-1]
    return corners[:last + 1], upper


def cut(units, item, limit, sign):
    """What is left of a part, in units, where this item is at least limit, a FRACTION, or, for sign -1, at most."""
    unit, corners = finer_for(units, limit)
    level = limit[0] * (unit // limit[1])
    within = [(corner[item] - level) * sign for corner in corners]
    if not within or min(within) >= 0:
        return (unit, corners)
    if max(within) < 0:
        return (unit, [])
    crossings = crossings_of([corner[1 - item] for corner in corners], within)
    factor = 1
    for at in crossings:
        factor = lcm(factor, crossings[at][1])
    unit, corners = finer((unit, corners), factor)
    left = []
    for at, corner in enumerate(corners):
        if at in crossings:
            there = crossings[at][0] * (factor // crossings[at][1])
            crossing = (level * factor, there) if item == MOMENT else (there, level * factor)
            # Round a stretch one goes there and back, and meets it twice.
            if crossing not in left:
                left.append(crossing)
        if within[at] >= 0:
            left.append(corner)
    return (unit, left)


def crossings_of(others, within):
    """The FRACTIONS at which the other item stands where the way to a CORNER crosses a limit, by its place."""
    crossings = {}
    for at in range(len(within)):
        ahead, here = within[at - 1], within[at]
        if ahead * here < 0:
            crossings[at] = reduced(others[at - 1] * here - others[at] * ahead, here - ahead)
    return crossings


def from_least(corners):
    """The list of CORNERS met round a part, from the least one on."""
    if not corners:
        return corners
    least = corners.index(min(corners))
    return corners[least:] + corners[:least]


def longs_at(polygon, moment):
    """The least and the greatest long of the points with a moment, None if there are none."""
    there = cut_to(polygon, moment, moment)
    return None if there == () else (there[0][LONG], there[-1][LONG])


def moments_in(polygon):
    """The least and the greatest moment of all points, None if there are none."""
    if polygon == ():
        return None
    return (polygon[0][MOMENT], greatest_of([moment for moment, _ in polygon]))


def has_point(polygon, corner):
    longs = longs_at(polygon, corner[MOMENT])
    return longs is not None and compared(longs[0], corner[LONG]) <= 0 and compared(corner[LONG], longs[1]) <= 0

"""POLYGONS: how things may stand at the end of a cell, told by the corners of a convex part of the plane.

A CORNER is a tuple (moment, long): when the cell ends, and how long it lasted.
"""

from flutterheld.fractions import added, compared, greatest_of, in_order_by, lessened, over, times, whole

MOMENT = 0
LONG = 1


def compared_corners(one, other):
    """-1, 0 or 1 as one CORNER is less than, alike, greater than another one."""
    by_moment = compared(one[MOMENT], other[MOMENT])
    return by_moment if by_moment != 0 else compared(one[LONG], other[LONG])


def turned_left(one, other, corner):
    """Whether the way from one to other turns to the left to go on to a third CORNER."""
    way, further = apart(one, other), apart(other, corner)
    return compared(times(way[MOMENT], further[LONG]), times(way[LONG], further[MOMENT])) > 0


def apart(one, other):
    """By how much another CORNER has a later moment, and a greater long."""
    return (lessened(other[MOMENT], one[MOMENT]), lessened(other[LONG], one[LONG]))


def polygon_of(corners):
    """The least POLYGON in which all CORNERS lie."""
    ordered = in_order_by(compared_corners, corners)
    unlike = [corner for at, corner in enumerate(ordered) if at == 0 or corner != ordered[at - 1]]
    if len(unlike) < 2:
        return tuple(unlike)
    return tuple(lower_side(unlike)[:-1] + lower_side(unlike[::-1])[:-1])


def lower_side(ordered):
    """The CORNERS, of such in order, from the first to the last one that leave all others on the left."""
    side = []
    for corner in ordered:
        while len(side) > 1 and not turned_left(side[-2], side[-1], corner):
            side.pop()
        side.append(corner)
    return side


def begun(bounds, low, high, longest):
    """The POLYGON at the end of a first cell that begins from low to high and lasts from cell to longest."""
    cell = whole(bounds[0])
    if compared(longest, cell) < 0:
        return ()
    return polygon_of([(added(begin, long), long) for begin in (low, high) for long in (cell, longest)])


def led_on(bounds, polygon):
    """The POLYGON at the end of a next cell."""
    lasting = cut(drifted(polygon, bounds[1]), LONG, whole(bounds[0]), 1)
    return from_least([(added(moment, long), long) for moment, long in lasting])


def drifted(polygon, drift):
    """The CORNERS, met round it, of what is at most drift below or above the points of a POLYGON."""
    if drift[0] == 0 or polygon == ():
        return list(polygon)
    lower, upper = sides_of(polygon)
    lower = [(moment, lessened(long, drift)) for moment, long in lower]
    return lower + [(moment, added(long, drift)) for moment, long in upper]


def sides_of(polygon):
    """The CORNERS of a POLYGON from its first moment to its last one, below, and back again, above."""
    last = 0
    while last + 1 < len(polygon) and compared(polygon[last][MOMENT], polygon[last + 1][MOMENT]) < 0:
        last += 1
    upper = polygon[last:] + polygon[:1]
    # Where a side goes straight up, only its upper end is above.
    if len(upper) > 1 and upper[0][MOMENT] == upper[1][MOMENT]:
        upper = upper[1:]
    if len(upper) > 1 and upper[-1][MOMENT] == upper[-2][MOMENT]:
        upper = upper[:-1]
    return polygon[:last + 1], upper


def cut(corners, item, limit, sign):
    """The CORNERS round what is left of a part where this item is at least limit, or, for sign -1, at most."""
    sides = [compared(corner[item], limit) * sign for corner in corners]
    if -1 not in sides:
        return corners
    left = []
    for at, corner in enumerate(corners):
        after = at + 1 if at + 1 < len(corners) else 0
        if sides[at] >= 0:
            left.append(corner)
        if sides[at] * sides[after] < 0:
            crossing = point_between(corner, corners[after], item, limit)
            # Round a stretch one goes there and back, and meets it twice.
            if crossing not in left:
                left.append(crossing)
    return left


def point_between(one, other, item, limit):
    """The point of the stretch between two CORNERS at which this item is as told."""
    share = over(lessened(limit, one[item]), lessened(other[item], one[item]))
    moment, long = apart(one, other)
    return (added(one[MOMENT], times(share, moment)), added(one[LONG], times(share, long)))


def from_least(corners):
    """The tuple of CORNERS met round a part, from the least one on."""
    least = 0
    for at, corner in enumerate(corners):
        if compared_corners(corner, corners[least]) < 0:
            least = at
    return tuple(corners[least:] + corners[:least])


def cut_to(polygon, low, high):
    """The POLYGON of the points whose moment is from low to high."""
    return from_least(cut(cut(list(polygon), MOMENT, low, 1), MOMENT, high, -1))


def longs_at(polygon, moment):
    """The least and the greatest long of the points with a moment, None if there are none."""
    there = cut_to(polygon, moment, moment)
    return None if there == () else (there[0][LONG], there[-1][LONG])


def moments_in(polygon):
    """The least and the greatest moment of all points, None if there are none."""
    if polygon == ():
        return None
    return (polygon[0][MOMENT], greatest_of([moment for moment, _ in polygon]))


def has_point(polygon, corner):
    longs = longs_at(polygon, corner[MOMENT])
    return longs is not None and compared(longs[0], corner[LONG]) <= 0 and compared(corner[LONG], longs[1]) <= 0

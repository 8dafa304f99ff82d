"""Papers: by them a small judge sees that a row does, or does not, FIT a HEARING.

A NONE PAPER is found backward, from the first mark that cannot be where it was heard. An aim is a tuple (a, b): what
has to be shown is how great a * moment + b * long can be at the end of a cell. At each mark and at each cell some of
the INEQUALITIES are taken for this, as often as helps most, and what is left to be shown is an aim at the end of the
cell ahead; the aim (0, 0) asks for nothing. Behind each choice stands a function of one number, made of straight pieces
and bent upward: so it is least at one of its bends, and these are told by the sides of a POLYGON.
"""

from flutterheld.forms import is_fraction_from_none, is_row, is_tuple_of
from flutterheld.fractions import added, compared, greatest_of, lessened, negated, over, size_of, sum_of, times, whole
from flutterheld.hearer import rows_that_fit
from flutterheld.hearings import gives, inequalities
from flutterheld.polygons import apart
from flutterheld.rows import cells_of, length_of
from flutterheld.tellings import cut_about, next_cell, polygons_of, telling_within

ZERO = (0, 1)
NOTHING = ((0, 1), (0, 1))


class Draft:
    """A NONE PAPER that is being written: how often each of the INEQUALITIES is taken."""

    def __init__(self, row):
        cells = length_of(row)
        self.cells = [ZERO] * cells
        self.drifts = [ZERO] * (2 * (cells - 1))
        self.marks = [ZERO] * (2 * (len(row) + 1))

    def take_cell(self, cell, amount):
        self.cells[cell] = added(self.cells[cell], amount)

    def take_drift(self, cell, amount):
        """Of the two about a cell and the next one the one with 1 for the cell, or, for an amount below 0, with -1."""
        take_of_two(self.drifts, cell, amount)

    def take_mark(self, mark, amount):
        """Of the two about a mark the one with 1 for the begin, or, for an amount below 0, with -1."""
        take_of_two(self.marks, mark, amount)

    def take_longest(self, row, amount):
        """All that shows how long the first cell lasts at most: the first two marks, and its run's further cells."""
        self.take_mark(1, amount)
        self.take_mark(0, negated(amount))
        for cell in range(1, row[0]):
            self.take_cell(cell, amount)

    def paper(self):
        return tuple(self.cells + self.drifts + self.marks)


def take_of_two(amounts, which, amount):
    at = 2 * which if amount[0] > 0 else 2 * which + 1
    amounts[at] = added(amounts[at], size_of(amount))


def is_none_paper(bounds, row, hearing, thing):
    """Whether any value is a NONE PAPER that a row does not FIT a HEARING."""
    if len(hearing) != len(row) + 1:
        return is_tuple_of(0, thing)
    rules = inequalities(bounds, row, hearing)
    if not is_tuple_of(len(rules), thing) or not all([is_fraction_from_none(part) for part in thing]):
        return False
    taken = [(factors, most, part) for (factors, most), part in zip(rules, thing) if part[0] > 0]
    sums = [ZERO] * (1 + length_of(row))
    for factors, _, part in taken:
        for at, factor in enumerate(factors):
            if factor != 0:
                sums[at] = added(sums[at], times(whole(factor), part))
    shown = sum_of([times(most, part) for _, most, part in taken])
    return sums == [ZERO] * len(sums) and compared(shown, ZERO) < 0


def none_paper(bounds, row, hearing):
    """A NONE PAPER that a row does not FIT a HEARING, None if it does."""
    if len(hearing) != len(row) + 1:
        return ()
    polygons = polygons_of(bounds, row, hearing)
    return None if () not in polygons else paper_by(bounds, row, hearing, polygons)


def paper_by(bounds, row, hearing, polygons):
    """A NONE PAPER for a row of whose POLYGONS some are ()."""
    draft = Draft(row)
    mark_at = {cell: mark for mark, cell in enumerate(cells_of(row))}
    at = polygons.index(())
    aim = first_aim(bounds, row, hearing, polygons, draft)
    while at > 0 and aim != NOTHING:
        aim = aim_ahead(bounds, polygons[at - 1], draft, at, aim)
        if at in mark_at:
            polygon = whole_polygon(bounds, hearing, polygons, at - 1)
            aim = aim_without_mark(bounds, polygon, draft, mark_at[at], hearing[mark_at[at]], aim)
        at -= 1
    if aim != NOTHING:
        end_of_aim(row, draft, aim)
    return draft.paper()


def whole_polygon(bounds, hearing, polygons, at):
    """The POLYGON at the end of a cell if nothing is known of a mark there."""
    return next_cell(bounds, polygons[at - 1] if at > 0 else None, hearing[0], hearing[1])


def first_aim(bounds, row, hearing, polygons, draft):
    """The aim at the end of the first cell at which nothing is left: that its mark is heard too late, or too early."""
    at = polygons.index(())
    polygon = whole_polygon(bounds, hearing, polygons, at)
    if polygon == ():
        # Not even cell is as short as the first cell would have to be.
        draft.take_longest(row, (1, 1))
        draft.take_cell(0, (1, 1))
        return NOTHING
    mark = cells_of(row).index(at + 1)
    is_late = compared(polygon[0][0], added(hearing[mark], bounds[2])) > 0
    way = (-1, 1) if is_late else (1, 1)
    draft.take_mark(mark, negated(way))
    return (way, ZERO)


def aim_ahead(bounds, polygon, draft, at, aim):
    """The aim at the end of the cell ahead of a cell, of which this is the POLYGON."""
    by_moment = aim[0]
    by_long = added(aim[0], aim[1])
    ahead = by_long
    if by_long[0] < 0:
        ahead = least_ahead(bounds, polygon, by_moment, by_long)
        draft.take_cell(at, lessened(ahead, by_long))
    draft.take_drift(at - 1, negated(ahead))
    return (by_moment, ahead)


def least_ahead(bounds, polygon, by_moment, by_long):
    """How much of the aim at a cell's long, which is below 0, is left for the cell ahead: from by_long up to 0."""
    cell, drift = whole(bounds[0]), bounds[1]
    some = [bend_at(polygon, (by_moment, ZERO)), bend_at(polygon, (by_moment, by_long))]
    for corner, (moment, long) in sides_round(polygon):
        if long[0] * by_moment[0] > 0:
            bend = negated(over(times(by_moment, moment), long))
            if bend[0] < 0 and compared(by_long, bend) < 0:
                some.append(((by_moment, bend), reach(corner, (by_moment, bend))))
    costs = [added(times(drift, size_of(bend)), times(cell, lessened(by_long, bend))) for (_, bend), _ in some]
    return best_of(some, costs)[1]


def aim_without_mark(bounds, polygon, draft, mark, moment, aim):
    """The aim where nothing is known of the mark at the end of this cell; polygon is the one without it."""
    by_moment, by_long = aim
    some = [((ZERO, by_long), ZERO)] if by_long == ZERO else []
    some.append(bend_at(polygon, aim))
    for corner, (later, long) in sides_round(polygon):
        if later[0] * by_long[0] < 0:
            bend = (negated(over(times(by_long, long), later)), by_long)
            some.append((bend, reach(corner, bend)))
    spent = [lessened(by_moment, bend) for (bend, _), _ in some]
    costs = [added(times(part, moment), times(size_of(part), bounds[2])) for part in spent]
    best = best_of(some, costs)
    draft.take_mark(mark, lessened(by_moment, best[0]))
    return best


def best_of(some, costs):
    """Of tuples (aim, reach), the first aim with the least reach and cost together."""
    best, least = None, None
    for (aim, reached), cost in zip(some, costs):
        shown = added(reached, cost)
        if least is None or compared(shown, least) < 0:
            best, least = aim, shown
    return best


def bend_at(polygon, aim):
    return (aim, greatest_of([reach(corner, aim) for corner in polygon]))


def reach(corner, aim):
    return added(times(corner[0], aim[0]), times(corner[1], aim[1]))


def sides_round(polygon):
    """Tuples (corner, way) of the sides of a POLYGON, as they are met: where each begins, and where it leads."""
    return [(one, apart(one, other)) for one, other in zip(polygon, polygon[1:] + polygon[:1])]


def end_of_aim(row, draft, aim):
    """Shows an aim at the end of the first cell."""
    by_long = added(aim[0], aim[1])
    draft.take_mark(0, aim[0])
    if by_long[0] > 0:
        draft.take_longest(row, by_long)
    else:
        draft.take_cell(0, negated(by_long))


def all_paper(bounds, hearing):
    """A PAPER OF ALL of a HEARING with at least one item."""
    # Asked ahead of all, so that no paper is made in vain if there are too many.
    rows_that_fit(bounds, hearing)
    found, rows = {}, [((), [])]
    for many in range(1, len(hearing) + 1):
        heard, further = hearing[:many], []
        for row, polygons in rows:
            telling = telling_within(polygons, heard)
            if telling is None:
                found[row] = ("none", paper_by(bounds, row, heard, polygons))
            else:
                found[row] = ("fits", telling)
                if many < len(hearing):
                    further.extend(with_each_run(bounds, row, polygons, hearing[:many + 1]))
        rows = further
    return {row: found[row] for row in sorted(found)}


def with_each_run(bounds, row, polygons, hearing):
    """Tuples (row, POLYGONS) of a row with each RUN behind it; the HEARING has an item for this one's mark, too."""
    found, ahead = [], list(polygons)
    for run in range(1, bounds[4] + 1):
        polygon = next_cell(bounds, ahead[-1] if ahead else None, hearing[0], hearing[-1])
        if run >= bounds[3]:
            found.append((row + (run,), ahead + [cut_about(bounds, polygon, hearing[-1])]))
        ahead.append(polygon)
    return found


def is_all_paper(bounds, hearing, thing):
    """Whether any value is a PAPER OF ALL of a HEARING, its keys standing in any order."""
    # A row of truths would be found under the row of the integers that Python takes for them.
    if not isinstance(thing, dict) or not all([is_row(bounds, row) for row in thing]):
        return False
    rows, many = [()], 0
    while rows:
        row = rows.pop()
        if row not in thing or not is_paper(bounds, row, hearing[:len(row) + 1], thing[row]):
            return False
        many += 1
        if thing[row][0] == "fits" and len(row) + 1 < len(hearing):
            rows.extend([row + (run,) for run in range(bounds[3], bounds[4] + 1)])
    return many == len(thing)


def is_paper(bounds, row, hearing, thing):
    """Whether any value is a paper of a row and as many items as it has MARKS."""
    if not is_tuple_of(2, thing) or not isinstance(thing[0], str):
        return False
    word, shown = thing
    if word == "fits":
        return gives(bounds, row, shown, hearing)
    return word == "none" and is_none_paper(bounds, row, hearing, shown)


def rows_of_paper(hearing, paper):
    """The list of the ROWS that FIT, by a PAPER OF ALL of a HEARING."""
    return sorted([row for row, (word, _) in paper.items() if word == "fits" and len(row) + 1 == len(hearing)])

"""Hearers: marks are heard one by one, and each RUN is told as soon as just one is left that fits."""

from flutterheld.errors import Early, TooMany, Wrong
from flutterheld.forms import are_bounds, is_fraction
from flutterheld.fractions import compared
from flutterheld.tellings import fitting_runs, last_polygon

MOST_ROWS = 200


class Hearer:
    """What is handed the moments of a HEARING of a LED ROW."""

    def __init__(self, bounds):
        if not are_bounds(bounds):
            raise Wrong(0)
        self._bounds = bounds
        self._row = ()
        self._heard = ()
        # What may be true at the last mark that fits, in units; None as long as there is no cell.
        self._polygon = None
        # The last moment handed in, behind a harm, too.
        self._last = None
        # "harm" or "unsure", if one of both was told.
        self._wrong = None

    def hear(self, moment):
        """The next RUN, None within the LEAD, "harm" if none fits, "unsure" if more do."""
        if not is_fraction(moment):
            raise Wrong(0)
        if self._last is not None and compared(moment, self._last) < 0:
            raise Early(moment)
        self._last = moment
        if self._wrong is None:
            return self._go_on(moment)
        return self._wrong

    def _go_on(self, moment):
        if self._heard == ():
            self._heard = (moment,)
            return None
        lo, most, lead = self._bounds[3:]
        least = most if len(self._row) < lead else lo
        found = fitting_runs(self._bounds, self._polygon, self._heard[-1], moment, least, most)
        if len(found) != 1:
            self._wrong = "unsure" if found else "harm"
            return self._wrong
        run, self._polygon = found[0]
        self._row = self._row + (run,)
        self._heard = self._heard + (moment,)
        return run if len(self._row) > lead else None

    def state(self):
        if self._wrong is not None:
            return self._wrong
        return "runs" if len(self._row) > self._bounds[5] else "lead"

    def row(self):
        """The ROW that it knows."""
        return self._row

    def heard(self):
        """The moments up to the last one that fits."""
        return self._heard

    def twin(self):
        other = Hearer(self._bounds)
        other._row = self._row
        other._heard = self._heard
        other._polygon = self._polygon
        other._last = self._last
        other._wrong = self._wrong
        return other

    def __eq__(self, other):
        if not isinstance(other, Hearer) or self._bounds != other._bounds or self._row != other._row:
            return False
        return self._heard == other._heard and self._wrong == other._wrong


def rows_that_fit(bounds, hearing):
    """The list of all ROWS that FIT a HEARING, ascending."""
    return rows_behind(bounds, 0, hearing)


def led_rows_that_fit(bounds, hearing):
    """The list of the ROWS that FIT a HEARING and are the begin of the LEAD, or LED, ascending."""
    return rows_behind(bounds, bounds[5], hearing)


def rows_behind(bounds, lead, hearing):
    """The ROWS that FIT a HEARING and whose first RUNS, so many, are most."""
    lo, most = bounds[3], bounds[4]
    rows = [((), None)] if hearing else []
    for heard, moment in zip(hearing, hearing[1:]):
        further = []
        for row, polygon in rows:
            least = most if len(row) < lead else lo
            found = fitting_runs(bounds, polygon, heard, moment, least, most)
            further = further + [(row + (run,), left) for run, left in found]
            if len(further) > MOST_ROWS:
                raise TooMany(MOST_ROWS)
        rows = further
    return [row for row, _ in rows]


def told_run(bounds, row, hearing):
    """The LOT of all RUNS that may stand behind a ROW, of a HEARING with one item more than it has MARKS."""
    polygon = last_polygon(bounds, row, hearing)
    if polygon == ():
        return ()
    found = fitting_runs(bounds, polygon, hearing[-2], hearing[-1], bounds[3], bounds[4])
    return tuple([run for run, _ in found])

"""Reading blocks: a HEARING is read RUN by RUN, and is a block, or lost."""

from flutterheld.blocks import block_of_row
from flutterheld.counts import all_bodies, is_begun, many_bodies
from flutterheld.errors import TooMany
from flutterheld.forms import are_all, is_full, lead_of
from flutterheld.fractions import compared, lessened, over, whole
from flutterheld.hearer import Hearer
from flutterheld.rows import cells_of, mirrored
from flutterheld.tellings import do_fit

MOST_TRIED = 500


def row_told(form, hearing):
    """The FULL ROW that FITS a HEARING, None if none does."""
    # No other one FITS if this one does, so a REEL that runs evenly is read at once.
    even = even_row(form[0], hearing)
    if is_full(form, even):
        return even
    hearer = Hearer(form[0])
    for moment in hearing:
        hearer.hear(moment)
    row = hearer.row()
    # Behind a harm the row is shorter than what was heard.
    return row if len(hearing) == len(row) + 1 and is_full(form, row) else None


def even_row(bounds, hearing):
    """What is told if each cell lasts as long as those of the LEAD do together; None if it cannot be told so."""
    most, lead = bounds[4], bounds[5]
    if len(hearing) <= lead:
        return None
    lasting = over(lessened(hearing[lead], hearing[0]), whole(lead * most))
    if compared(lasting, whole(bounds[0])) < 0:
        return None
    runs = [over(lessened(moment, ahead), lasting) for ahead, moment in zip(hearing, hearing[1:])]
    return tuple([run[0] for run in runs]) if all([run[1] == 1 for run in runs]) else None


def row_by_trying(form, hearing):
    """As row_told, by asking of each FULL ROW whether it FITS."""
    bounds, data = form[:2]
    if many_bodies(bounds, data) > MOST_TRIED:
        raise TooMany(MOST_TRIED)
    rows = [lead_of(bounds) + body + lead_of(bounds) for body in all_bodies(bounds, data)]
    fitting = [row for row in rows if do_fit(bounds, row, hearing)]
    return fitting[0] if fitting else None


def noticed(form, hearing):
    """The least n for which the first n items FIT no beginning of a FULL ROW with n MARKS, None if there is none."""
    hearer = Hearer(form[0])
    for at, moment in enumerate(hearing):
        hearer.hear(moment)
        row = hearer.row()
        if len(row) < at or not begins_full(form, row):
            return at + 1
    return None


def begins_full(form, row):
    """Whether a FULL ROW begins with a ROW, of a FORMAT with BODIES."""
    bounds, data = form[:2]
    most, lead = bounds[4], bounds[5]
    body = row[lead:]
    ends = cells_of(body)
    if not are_all(most, row[:lead]):
        return False
    if ends[-1] < data:
        return is_begun(bounds, data, body)
    if data not in ends:
        return False
    tail = body[ends.index(data):]
    return len(tail) <= lead and are_all(most, tail)


def told(form, hearing):
    """The BLOCK whose FULL ROW FITS a HEARING, None (LOST) if there is none."""
    row = row_told(form, hearing)
    return None if row is None else block_of_row(form, row)


def told_turned(form, hearing):
    """As told, of what is heard if the reel runs backward: the TAIL is read first, as a LEAD."""
    row = row_told(form, hearing)
    return None if row is None else block_of_row(form, mirrored(row))


def read_slots(form, hearings):
    return tuple([told(form, hearing) for hearing in hearings])

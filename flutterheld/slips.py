"""SLIPS: two LED ROWS, alike but for their last RUNS, that are heard alike.

Both TELLINGS of such a pair go with the row of the greatest STRAIN. A step, here, is by how much a cell lasts longer
by the first TELLING than by the other one; h, at a cell, is the moment of the first one less that of the other one,
so h at the begin and the steps ahead of the cell together. Neighbouring steps may differ by twice the drift, and h at
a mark may be twice the shift in size.
"""

from flutterheld.forms import is_hearing, is_led, is_run, is_tuple_of
from flutterheld.fractions import added, compared, greatest_of, least_of, lessened, negated, over, sum_of, times, whole
from flutterheld.hearings import gives
from flutterheld.pull import phi, pull, pull_row
from flutterheld.rides import mark_moments
from flutterheld.rows import distances_of, length_of
from flutterheld.sure import is_sure

HALF = (1, 2)


def heard_alike(bounds, run, gap):
    """(row, telling, other, hearing): a LED ROW with run behind it is heard as with gap; None if there is none."""
    grown = growth(bounds, run)
    wanted = lessened(whole((gap - run) * bounds[0]), times(whole(2), bounds[2]))
    if compared(wanted, grown) > 0:
        return None
    row = pull_row(bounds)
    factor = over(wanted, grown) if wanted[0] > 0 else (0, 1)
    steps = [times(factor, step) for step in greatest_steps(bounds, row, run)]
    begin = times(factor, times(whole(-2), bounds[2]))
    telling, other = told_apart(bounds[0], begin, steps, gap - run)
    hearing = half_way(mark_moments(telling, row + (run,)), mark_moments(other, row + (gap,)))
    return (row, telling, other, hearing)


def growth(bounds, run):
    """The greatest h that there can be at the end of a run."""
    drift, shift = bounds[1], bounds[2]
    behind = added(times(whole(run), pull(bounds)), times(drift, whole(run * (run + 1))))
    return added(times(whole(2), shift), behind)


def greatest_steps(bounds, row, run):
    """The steps by which h comes to growth at the end of the run behind a row whose STRAIN is PULL."""
    most = bounds[4]
    strained = straining_distance(bounds, row)
    apart = times(whole(2), bounds[1])
    first = lessened(pull(bounds), times(apart, whole(strained - 1)))
    steps = steps_ahead(most, (length_of(row) - strained) // most, nearest(first, times(bounds[1], whole(most - 1))))
    return steps + [added(first, times(apart, whole(at))) for at in range(strained + run)]


def straining_distance(bounds, row):
    """The least of the DISTANCES with the least PHI. Ahead of it there are RUNS of the LEAD alone."""
    least = pull(bounds)
    return min([t for t in distances_of(row) if compared(phi(bounds, t), least) == 0])


def nearest(one, most):
    """What is nearest to one of all that is at most most in size."""
    return greatest_of([negated(most), least_of([one, most])])


def steps_ahead(most, many, end):
    """The steps of so many RUNS most: h is the same at all their marks, and the last step is end."""
    steps = []
    for behind in reversed(range(many)):
        steps = steps + swing(most, end if behind % 2 == 0 else negated(end))
    return steps


def swing(most, end):
    """So many steps that go evenly from 0 less end to end."""
    if most == 1:
        return [end]
    return [times(end, over(whole(2 * at - most + 1), whole(most - 1))) for at in range(most)]


def told_apart(cell, begin, steps, further):
    """Two TELLINGS with these steps between them, the other one with so many further cells, none below cell.

    The last step is the greatest in size, so the other one's cell there lasts just cell, and cell may follow it.
    """
    mean = added(whole(cell), times(HALF, steps[-1]))
    halves = [times(HALF, step) for step in steps]
    ride = tuple([added(mean, half) for half in halves])
    other = tuple([lessened(mean, half) for half in halves]) + (whole(cell),) * further
    return (begin, ride), ((0, 1), other)


def half_way(moments, others):
    return tuple([times(HALF, sum_of([one, other])) for one, other in zip(moments, others)])


def slip_of(bounds):
    """A SLIP of BOUNDS, None if they are SURE."""
    if is_sure(bounds):
        return None
    run, other_run = bounds[4] - 1, bounds[4]
    row, telling, other, hearing = heard_alike(bounds, run, other_run)
    return (row, run, other_run, telling, other, hearing)


def is_slip(bounds, thing):
    """Whether any value is a SLIP of BOUNDS."""
    if not is_tuple_of(6, thing):
        return False
    row, run, other_run, telling, other, hearing = thing
    if not is_led(bounds, row) or not is_run(bounds, run) or not is_run(bounds, other_run) or run == other_run:
        return False
    if not is_hearing(hearing):
        return False
    return gives(bounds, row + (run,), telling, hearing) and gives(bounds, row + (other_run,), other, hearing)

"""PLANS: the BOUNDS and the data that put most BITS on a told TAPE.

A TAPE is a tuple (drift, shift, ticks, most, lead), a PLAN a tuple (lo, most, lead, cell, data, bits).
"""

from flutterheld.counts import bits_in, counts_to
from flutterheld.forms import is_integer, is_tuple_of
from flutterheld.harms import least_watchful_cell


def plans_of(tape):
    """The ascending list of all PLANS."""
    plans = []
    for lo in range(1, tape[3] + 1):
        # 2 * lo has to be above most.
        for most in range(lo, min(tape[3], 2 * lo - 1) + 1):
            for lead in range(1, tape[4] + 1):
                plan = plan_with(tape, lo, most, lead)
                if plan is not None:
                    plans.append(plan)
    return plans


def plan_with(tape, lo, most, lead):
    """The PLAN with these, 2 * lo being above most; None if there is none."""
    drift, shift, ticks = tape[:3]
    cell = least_watchful_cell(drift, shift, lo, most, lead)
    data = ticks // cell - 2 * lead * most
    if data < lo:
        return None
    counts = counts_to((cell, drift, shift, lo, most, lead), data)
    # lo cells are one RUN, so something is told, be it nothing but 0 bits.
    bits = max([bits_in(many) for many in counts[1:] if many > 0])
    least = min([cells for cells in range(1, data + 1) if bits_in(counts[cells]) == bits])
    return (lo, most, lead, cell, least, bits)


def densest(tape):
    """The ascending list of the PLANS with the greatest bits."""
    plans = plans_of(tape)
    greatest = max([plan[5] for plan in plans], default=0)
    return [plan for plan in plans if plan[5] == greatest]


def best_plan(tape):
    """Of the densest the one with the least most, then the greatest lo, then the least lead; None if there is none."""
    some = [(plan[1], -plan[0], plan[2], plan) for plan in densest(tape)]
    return min(some)[3] if some else None


def bounds_of_plan(tape, plan):
    lo, most, lead, cell, _, _ = plan
    return (cell, tape[0], tape[1], lo, most, lead)


def is_plan(tape, thing):
    """Whether any value is a PLAN of a TAPE."""
    if not is_tuple_of(6, thing) or not all([is_integer(part) for part in thing]):
        return False
    lo, most, lead = thing[:3]
    if lo < 1 or most < lo or most > tape[3] or 2 * lo <= most or lead < 1 or lead > tape[4]:
        return False
    return thing == plan_with(tape, lo, most, lead)

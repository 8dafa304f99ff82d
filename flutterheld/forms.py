"""Forms: each of these tells of any value whether it is what its name says."""

from math import gcd

from flutterheld.fractions import are_within, climbing, compared, rising, whole


def is_integer(thing):
    # For Python a truth is an integer, too; here it is none.
    return isinstance(thing, int) and not isinstance(thing, bool)


def is_integer_from(least, thing):
    return is_integer(thing) and thing >= least


def is_tuple_of(many, thing):
    return isinstance(thing, tuple) and len(thing) == many


def is_fraction(thing):
    if not is_tuple_of(2, thing):
        return False
    n, d = thing
    return is_integer(n) and is_integer_from(1, d) and gcd(n, d) == 1


def is_fraction_from_none(thing):
    return is_fraction(thing) and thing[0] >= 0


def are_fractions(thing):
    return isinstance(thing, tuple) and all([is_fraction(part) for part in thing])


def is_lot(thing):
    if not isinstance(thing, tuple) or not all([is_integer(part) for part in thing]):
        return False
    return all([one < other for one, other in zip(thing, thing[1:])])


def are_bounds(thing):
    if not is_tuple_of(6, thing):
        return False
    cell, drift, shift, lo, most, lead = thing
    if not is_integer_from(1, cell) or not is_integer_from(1, lo) or not is_integer_from(1, lead):
        return False
    return is_integer_from(lo, most) and is_fraction_from_none(drift) and is_fraction_from_none(shift)


def lead_of(bounds):
    return (bounds[4],) * bounds[5]


def is_run(bounds, thing):
    return is_integer(thing) and bounds[3] <= thing <= bounds[4]


def is_row(bounds, thing):
    return isinstance(thing, tuple) and all([is_run(bounds, part) for part in thing])


def are_all(run, runs):
    return all([one == run for one in runs])


def is_led(bounds, thing):
    # The LEAD itself is not made here: it may be far longer than any value.
    most, lead = bounds[4], bounds[5]
    return is_row(bounds, thing) and len(thing) >= lead and are_all(most, thing[:lead])


def is_gapped(bounds, thing):
    return is_tuple_of(2, thing) and is_row(bounds, thing[0]) and is_integer_from(1, thing[1])


def is_ride(bounds, thing):
    if not are_fractions(thing):
        return False
    cell = whole(bounds[0])
    if not all([compared(lasting, cell) >= 0 for lasting in thing]):
        return False
    return all([are_within(one, other, bounds[1]) for one, other in zip(thing, thing[1:])])


def is_telling(bounds, thing):
    return is_tuple_of(2, thing) and is_fraction(thing[0]) and is_ride(bounds, thing[1])


def is_hearing(thing):
    return are_fractions(thing) and rising(thing)


def is_format(thing):
    if not is_tuple_of(4, thing):
        return False
    bounds, data, many, spare = thing
    return are_bounds(bounds) and is_integer_from(1, data) and is_integer_from(1, many) and is_integer_from(0, spare)


def is_body(form, thing):
    return is_row(form[0], thing) and sum(thing) == form[1]


def is_full(form, thing):
    bounds = form[0]
    most, lead = bounds[4], bounds[5]
    if not is_led(bounds, thing) or len(thing) < 2 * lead:
        return False
    tail = len(thing) - lead
    return are_all(most, thing[tail:]) and is_body(form, thing[lead:tail])


def is_harm(thing):
    if not is_tuple_of(2, thing) or not isinstance(thing[0], str):
        return False
    word, harmed = thing
    if word == "missed":
        return is_lot(harmed) and all([index >= 0 for index in harmed])
    return word == "clicks" and are_fractions(harmed) and climbing(harmed)

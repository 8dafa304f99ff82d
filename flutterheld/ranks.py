"""Ranks: BODIES, ascending, are numbered from 0 on."""

from flutterheld.counts import counts_to
from flutterheld.errors import NoBody


def body_at(bounds, data, number):
    """The BODY that has a number among all."""
    counts = counts_to(bounds, data)
    if number < 0 or number >= counts[data]:
        raise NoBody(number)
    runs, left, ahead = [], data, number
    while left > 0:
        run = bounds[3]
        # All that have a lesser RUN here stand ahead.
        while ahead >= counts[left - run]:
            ahead -= counts[left - run]
            run += 1
        runs.append(run)
        left -= run
    return tuple(runs)


def number_of(bounds, data, body):
    """The number of a BODY among all."""
    counts = counts_to(bounds, data)
    number, left = 0, data
    for run in body:
        number += sum(counts[left - run + 1:left - bounds[3] + 1])
        left -= run
    return number

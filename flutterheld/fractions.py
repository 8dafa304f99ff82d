"""FRACTIONS: tuples (n, d) of integers, d from 1 on, without a common divisor above 1."""

from math import gcd


def reduced(n, d):
    """The FRACTION that is n by d, d not being 0."""
    shared = gcd(n, d)
    if d < 0:
        shared = -shared
    return (n // shared, d // shared)


def whole(n):
    return (n, 1)


def negated(one):
    return (-one[0], one[1])


def size_of(one):
    return (abs(one[0]), one[1])


def added(one, other):
    # The divisor that both d share is all that the sum can be reduced by: it is small where one d is small,
    # and so long sums, whose d has thousands of digits, stay quick.
    shared = gcd(one[1], other[1])
    part = other[1] // shared
    n = one[0] * part + other[0] * (one[1] // shared)
    again = gcd(n, shared)
    return (n // again, one[1] // again * part)


def lessened(one, other):
    return added(one, negated(other))


def times(one, other):
    return reduced(one[0] * other[0], one[1] * other[1])


def over(one, other):
    """The quotient; other is not 0."""
    return reduced(one[0] * other[1], one[1] * other[0])


def compared(one, other):
    """-1, 0 or 1 as one is less than, as great as, greater than other."""
    n, m = one[0] * other[1], other[0] * one[1]
    if n == m:
        return 0
    return -1 if n < m else 1


def least_of(some):
    least = some[0]
    for one in some:
        if compared(one, least) < 0:
            least = one
    return least


def greatest_of(some):
    greatest = some[0]
    for one in some:
        if compared(one, greatest) > 0:
            greatest = one
    return greatest


def sum_of(some):
    total = (0, 1)
    for one in some:
        total = added(total, one)
    return total


def floor_of(one):
    return one[0] // one[1]


def ceil_of(one):
    return -(-one[0] // one[1])


def rising(some):
    """Whether they never fall."""
    return all([compared(one, other) <= 0 for one, other in zip(some, some[1:])])


def climbing(some):
    """Whether each one is above the one ahead of it."""
    return all([compared(one, other) < 0 for one, other in zip(some, some[1:])])


def are_within(one, other, most):
    """Whether two FRACTIONS differ by at most a third one."""
    return compared(size_of(lessened(one, other)), most) <= 0


def merged(some, others):
    """The list of the FRACTIONS of two lists or tuples that never fall, put in order."""
    return merged_by(compared, some, others)


def merged_by(order, some, others):
    """As merged, of anything, by a function that tells of two which one comes first, as compared does."""
    found = []
    at = 0
    for other in others:
        while at < len(some) and order(some[at], other) <= 0:
            found.append(some[at])
            at += 1
        found.append(other)
    return found + list(some[at:])


def in_order(some):
    """The list of these FRACTIONS from the least to the greatest, as often as each is there."""
    return in_order_by(compared, some)


def in_order_by(order, some):
    if len(some) < 2:
        return list(some)
    half = len(some) // 2
    return merged_by(order, in_order_by(order, some[:half]), in_order_by(order, some[half:]))

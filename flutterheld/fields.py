"""The field of 97: SYMBOLS, added and multiplied as remainders, and POLYNOMIALS, their coefficients being SYMBOLS."""

FIELD = 97


def field_sum(one, other):
    return (one + other) % FIELD


def field_less(one, other):
    return (one - other) % FIELD


def field_product(one, other):
    return one * other % FIELD


def field_inverse(one):
    """The SYMBOL whose product with one, which is not 0, is 1."""
    # The power 96 of each of them is 1.
    return pow(int(one), 95, 97)


def value_of(polynomial, at):
    value = 0
    for coefficient in reversed(polynomial):
        value = field_sum(field_product(value, at), coefficient)
    return value


def with_zero(polynomial, at):
    """A POLYNOMIAL times the one that is 0 just at at: it has one coefficient more."""
    return tuple([field_less(ahead, field_product(at, here))
                  for ahead, here in zip((0,) + polynomial, polynomial + (0,))])


def through(points):
    """The POLYNOMIAL of as many coefficients as there are POINTS that has each value at its at."""
    # zero is 0 at all POINTS gone through, so what is added of it changes nothing there.
    polynomial, zero = (), (1,)
    for at, value in points:
        lacking = field_less(value, value_of(polynomial, at))
        share = field_product(lacking, field_inverse(value_of(zero, at)))
        polynomial = tuple([field_sum(here, field_product(share, more))
                            for here, more in zip(polynomial + (0,), zero)])
        zero = with_zero(zero, at)
    return polynomial


def weights_at(ats, at):
    """What the values at some ats, no two of them alike, are to be multiplied with to make up the value at at."""
    weights = []
    for one in ats:
        # This is 1 at one, and 0 at each other of the ats.
        above, below = 1, 1
        for other in ats:
            if other != one:
                above = field_product(above, field_less(at, other))
                below = field_product(below, field_less(one, other))
        weights.append(field_product(above, field_inverse(below)))
    return tuple(weights)


def weighed(weights, values):
    """The sum of the values, each one times its weight."""
    return sum([weight * value for weight, value in zip(weights, values)]) % FIELD


def value_at(points, at):
    """The value at a SYMBOL of the POLYNOMIAL through the POINTS."""
    return weighed(weights_at([one for one, _ in points], at), [value for _, value in points])

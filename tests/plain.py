"""What the tests share: plain ways beside the clever ones, and values that are nearly right.

Here all of Python may be used, so what stands here goes by Fraction, and by `type(..) is`, where the package cannot.
"""

from fractions import Fraction

from flutterheld import errors

ODD = (
    None, True, False, 0, 1, -1, 2, 10 ** 39, -10 ** 39, "", "missed", "1", "a\nb~", (), [], {}, (0, 1), (1, 0), (2, 2),
    (True, 1), (1, True), (1, -1), (0, 2), [0, 1], ((0, 1),), ((), ()), {0: 1}, {(): ((1, 2), [None])}, (1, 2, 3), (3, 2, 1),
    errors.TapeError(), errors.Cut(1, 0), errors.Wrong([None]), object(),
)


def deep(many):
    """A value that is so many tuples, lists and dicts deep."""
    thing = None
    for at in range(many):
        thing = ((thing, thing), [thing], {at: thing})[at % 3]
    return thing


def nearly(thing):
    """Values like a tuple, or what stands in one, changed at one place each."""
    yield from ODD
    yield deep(20)
    if type(thing) is int:
        yield from (thing + 1, thing - 1, -thing, bool(thing), str(thing), (thing,), thing * 10 ** 20)
    if type(thing) is str:
        yield from (thing + " ", thing[1:], thing.upper(), [thing])
    if type(thing) is not tuple:
        return
    yield list(thing)
    yield thing[::-1]
    yield thing + thing
    yield {at: part for at, part in enumerate(thing)}
    if len(thing) == 2 and [type(part) for part in thing] == [int, int]:
        yield from ((thing[0] * 2, thing[1] * 2), (-thing[0], -thing[1]), (thing[0] + thing[1], thing[1]))
    for at, part in enumerate(thing):
        yield thing[:at] + thing[at + 1:]
        yield thing[:at] + (part,) + thing[at:]
        for other in nearly(part):
            yield thing[:at] + (other,) + thing[at + 1:]


def fraction(one):
    return Fraction(one[0], one[1])


def told(number):
    """The FRACTION of a number of Python's own."""
    number = Fraction(number)
    return (number.numerator, number.denominator)


# The forms once more, each one by itself.

def is_int(thing):
    return type(thing) is int


def is_fraction(thing):
    return (type(thing) is tuple and [type(part) for part in thing] == [int, int] and thing[1] > 0
            and told(Fraction(thing[0], thing[1])) == thing)


def is_lot(thing):
    return type(thing) is tuple and all(map(is_int, thing)) and sorted(set(thing)) == list(thing)


def are_bounds(thing):
    if type(thing) is not tuple or len(thing) != 6:
        return False
    if not all(is_int(thing[at]) and thing[at] > 0 for at in (0, 3, 4, 5)):
        return False
    return thing[3] <= thing[4] and all(is_fraction(thing[at]) and thing[at][0] >= 0 for at in (1, 2))


def is_run(bounds, thing):
    return is_int(thing) and bounds[3] <= thing <= bounds[4]


def is_row(bounds, thing):
    return type(thing) is tuple and all(is_run(bounds, part) for part in thing)


def is_led(bounds, thing):
    return is_row(bounds, thing) and thing[:bounds[5]] == (bounds[4],) * bounds[5]


def is_gapped(bounds, thing):
    return (type(thing) is tuple and len(thing) == 2 and is_row(bounds, thing[0])
            and is_int(thing[1]) and thing[1] > 0)


def is_ride(bounds, thing):
    if type(thing) is not tuple or not all(map(is_fraction, thing)):
        return False
    cells = [fraction(part) for part in thing]
    return (all(cell >= bounds[0] for cell in cells)
            and all(abs(cells[at] - cells[at + 1]) <= fraction(bounds[1]) for at in range(len(cells) - 1)))


def is_telling(bounds, thing):
    return type(thing) is tuple and len(thing) == 2 and is_fraction(thing[0]) and is_ride(bounds, thing[1])


def is_hearing(thing):
    if type(thing) is not tuple or not all(map(is_fraction, thing)):
        return False
    return sorted(thing, key=fraction) == list(thing)


def is_format(thing):
    if type(thing) is not tuple or len(thing) != 4 or not are_bounds(thing[0]):
        return False
    return all(map(is_int, thing[1:])) and thing[1] > 0 and thing[2] > 0 and thing[3] >= 0


def is_body(form, thing):
    return is_row(form[0], thing) and sum(thing) == form[1]


def is_full(form, thing):
    lead = (form[0][4],) * form[0][5]
    return type(thing) is tuple and any(
        thing[:at] == lead and thing[-len(lead):] == lead and is_row(form[0], thing) and is_body(form, thing[at:-len(lead)])
        for at in (len(lead),) if len(thing) >= 2 * at)


def is_harm(thing):
    if type(thing) is not tuple or len(thing) != 2 or type(thing[0]) is not str:
        return False
    if thing[0] == "missed":
        return is_lot(thing[1]) and all(index >= 0 for index in thing[1])
    return thing[0] == "clicks" and is_hearing(thing[1]) and len(set(thing[1])) == len(thing[1])


# BOUNDS of all sorts.

DRIFTS = ((0, 1), (1, 4), (1, 1), (7, 3))
SHIFTS = ((0, 1), (1, 6), (1, 1), (5, 2))
RUNS = ((1, 1), (1, 2), (2, 2), (2, 3), (1, 3), (2, 5), (3, 4), (5, 7))


def bounds_of_all_sorts(leads):
    return [(1, drift, shift, lo, most, lead)
            for drift in DRIFTS for shift in SHIFTS for lo, most in RUNS for lead in leads]


def some_ride(chance, bounds, cells):
    """A RIDE over so many cells that goes up and down by chance, and often touches what it may not pass."""
    drift, lasting = fraction(bounds[1]), bounds[0] + chance.choice((0, 0, 1, Fraction(7, 3)))
    ride = []
    for _ in range(cells):
        ride.append(told(lasting))
        lasting = max(Fraction(bounds[0]), lasting + drift * chance.choice((-1, 0, 1, Fraction(1, 3))))
    return tuple(ride)


def some_telling(chance, bounds, cells):
    return (told(Fraction(chance.randint(-50, 50), chance.randint(1, 7))), some_ride(chance, bounds, cells))


def some_row(chance, bounds, runs):
    return tuple(chance.randint(bounds[3], bounds[4]) for _ in range(runs))


def some_shifts(chance, bounds, many):
    return tuple(told(fraction(bounds[2]) * chance.choice((-1, 0, 1, Fraction(1, 3), Fraction(-2, 5)))) for _ in range(many))


# Whether inequalities can all be kept at once: by the simplex method, in exact numbers.

def can_be_kept(rules, many):
    """Whether numbers from 0 on, so many, keep all rules (factors, most): their factors times them come to at most most."""
    # Each rule gets a number that fills it up to its most; those below 0 are turned, and begin with a number of their own,
    # which has to come to 0.
    width = many + len(rules)
    table, basis, lacks = [], [], []
    for at, (factors, most) in enumerate(rules):
        line = [Fraction(factor) for factor in factors] + [Fraction(int(at == other)) for other in range(len(rules))]
        sign = -1 if most < 0 else 1
        table.append([sign * part for part in line] + [sign * Fraction(most)])
        basis.append(width + at if sign < 0 else many + at)
        lacks.append(sign < 0)
    goal = [sum((line[at] for line, lack in zip(table, lacks) if lack), Fraction(0)) for at in range(width + 1)]
    while True:
        # By Bland's rule, always the first one that helps, it cannot go round in circles.
        column = next((at for at in range(width) if goal[at] > 0), None)
        if column is None:
            return goal[width] == 0
        _, _, row = min((line[width] / line[column], basis[at], at) for at, line in enumerate(table) if line[column] > 0)
        turn_about(table, goal, row, column)
        basis[row] = column


def turn_about(table, goal, row, column):
    pivot = table[row][column]
    table[row] = [part / pivot for part in table[row]]
    for line in table[:row] + table[row + 1:] + [goal]:
        factor = line[column]
        if factor != 0:
            line[:] = [part - factor * other if other else part for part, other in zip(line, table[row])]


def are_heard_alike(bounds, row, run, gap):
    """Whether some HEARING FITS both row + (run,) and row + (gap,), asked of all TELLINGS at once."""
    cell, drift, shift = bounds[0], fraction(bounds[1]), fraction(bounds[2])
    first, other = sum(row) + run, sum(row) + gap
    many = first + other + 2
    rules = []

    def rule(parts, most):
        rules.append(([parts.get(at, 0) for at in range(many)], Fraction(most)))

    # What a cell lasts above cell is a number from 0 on; the begins differ by the last number but one less the last one.
    for start, cells in ((0, first), (first, other)):
        for at in range(start, start + cells - 1):
            rule({at: 1, at + 1: -1}, drift)
            rule({at: -1, at + 1: 1}, drift)
    marks = [(sum(row[:at]), sum(row[:at])) for at in range(len(row) + 1)] + [(first, other)]
    for here, there in marks:
        parts = {at: 1 for at in range(here)}
        parts.update({first + at: -1 for at in range(there)})
        parts.update({many - 2: 1, many - 1: -1})
        apart = (here - there) * cell
        rule(parts, 2 * shift - apart)
        rule({at: -part for at, part in parts.items()}, 2 * shift + apart)
    return can_be_kept(rules, many)


def fitting_rules(bounds, row, hearing):
    """Rules for what the cells last above cell, and for the begin: one number less another one, the last two."""
    cell, drift, shift = bounds[0], fraction(bounds[1]), fraction(bounds[2])
    cells = sum(row)
    rules = []

    def rule(parts, most):
        rules.append(([parts.get(at, 0) for at in range(cells + 2)], Fraction(most)))

    for at in range(cells - 1):
        rule({at: 1, at + 1: -1}, drift)
        rule({at: -1, at + 1: 1}, drift)
    for here, heard in zip([sum(row[:at]) for at in range(len(row) + 1)], map(fraction, hearing)):
        parts = {**{at: 1 for at in range(here)}, cells: 1, cells + 1: -1}
        rule(parts, heard + shift - here * cell)
        rule({at: -part for at, part in parts.items()}, shift - heard + here * cell)
    return rules


def does_fit(bounds, row, hearing):
    """Whether a row FITS a HEARING, asked of all TELLINGS at once."""
    return len(hearing) == len(row) + 1 and can_be_kept(fitting_rules(bounds, row, hearing), sum(row) + 2)


def can_end_so(bounds, row, hearing, cells, corner):
    """Whether a TELLING over so many first cells of a row, which keeps all marks up to there, ends as a CORNER tells."""
    marks = [sum(row[:at]) for at in range(len(row) + 1)]
    kept = [mark for mark in marks if mark <= cells]
    part = row[:len(kept) - 1] + ((cells - kept[-1],) if kept[-1] < cells else ())
    moment, long = map(fraction, corner)
    # Behind the last mark nothing is heard: what is asked there is a mark without a shift.
    rules = fitting_rules(bounds, part, hearing[:len(kept)])
    ends = [(1,) * cells + (1, -1), moment - cells * bounds[0]], [(0,) * (cells - 1) + (1, 0, 0), long - bounds[0]]
    for factors, most in ends:
        rules += [(factors, most), (tuple(-factor for factor in factors), -most)]
    longest = fraction(hearing[1]) - fraction(hearing[0]) + 2 * fraction(bounds[2])
    rules.append(((1,) + (0,) * (cells + 1), longest - bounds[0]))
    return long >= bounds[0] and can_be_kept(rules, cells + 2)


def swayed(bounds, cells, high, by):
    """A RIDE that goes up and down as quickly as it may, between cell and high times drift above it."""
    ways = [(at + by) % (2 * high) if high else 0 for at in range(cells)]
    return tuple(told(bounds[0] + fraction(bounds[1]) * min(way, 2 * high - way)) for way in ways)


def greatest_shifts(bounds, many, first=1):
    """Shifts of the greatest size, to one side and the other one by turns."""
    return tuple(told(fraction(bounds[2]) * (first if at % 2 == 0 else -first)) for at in range(many))


def heard_by_chance(chance, bounds, row):
    """A HEARING that fits a row, or does so but for one moment or all behind it, or one by chance alone."""
    kind = chance.choice(("told", "told", "moved", "late", "any"))
    if kind == "any":
        end = (bounds[0] + 2) * (sum(row) + 1)
        return tuple(map(told, sorted(Fraction(chance.randint(0, 3 * end), 3) for _ in range(len(row) + 1))))
    shifts = some_shifts(chance, bounds, len(row) + 1)
    begin, ride = some_telling(chance, bounds, sum(row))
    moments = [fraction(begin) + sum(map(fraction, ride[:sum(row[:at])]), Fraction(0)) for at in range(len(row) + 1)]
    moments = [moment + fraction(shift) for moment, shift in zip(moments, shifts)]
    if kind != "told":
        at, by = chance.randrange(len(moments)), Fraction(chance.randint(-12, 12), chance.randint(1, 4))
        till = at + 1 if kind == "moved" else len(moments)
        moments[at:till] = [moment + by for moment in moments[at:till]]
    return tuple(map(told, sorted(moments)))

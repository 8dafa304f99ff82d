"""ROWS: tuples of RUNS, and where their MARKS stand."""


def cells_of(row):
    """The LOT of the CELLS at which the MARKS stand, 0 first."""
    cells = [0]
    for run in row:
        cells.append(cells[-1] + run)
    return tuple(cells)


def length_of(row):
    return sum(row)


def distances_of(row):
    """The LOT of how many cells each earlier mark is from the last one."""
    return cells_of(mirrored(row))[1:]


def mirrored(row):
    return row[::-1]


def rows_over(bounds, cells):
    """The list of all ROWS with so many cells, ascending."""
    if cells == 0:
        return [()]
    longest = min(bounds[4], cells)
    return [(run,) + row for run in range(bounds[3], longest + 1) for row in rows_over(bounds, cells - run)]

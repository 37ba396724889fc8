"""The simplex method over integers: the greatest sum under bounds, with a proof that nothing is greater."""


def pivoted(rows, unit, row, column):
    """Return the rows after a pivot; all numbers stand for themselves divided by the unit, which becomes the pivot."""
    # The divisions leave no rest: each number is a determinant of numbers that stood in the rows at the start.
    pivot = rows[row][column]
    base = rows[row]
    return [base if at == row else [(pivot * number - line[column] * other) // unit
                                    for number, other in zip(line, base)]
            for at, line in enumerate(rows)]


def leaving_row(rows, basis, column):
    """Return the row that bounds the column first; of several the one with the least variable, so that none recurs."""
    bounding = [row for row in range(len(basis)) if rows[row][column] > 0]
    found = bounding[0]
    for row in bounding[1:]:
        mine, best = rows[row][-1] * rows[found][column], rows[found][-1] * rows[row][column]
        if (mine, basis[row]) < (best, basis[found]):
            found = row
    return found


def greatest_value(columns, gains, bounds):
    """Find numbers from 0 on, one for each column, whose sum, each number times its gain, is greatest.

    A column has a number for each bound, and for each bound the sum of the numbers found times those in the columns
    is at most the bound, which is 0 or more. The bounds must keep the greatest sum finite. Return the numbers found,
    the prices of the bounds, and the unit: all of them stand for themselves divided by it. The prices are 0 or more;
    for each column they add up, times its numbers, to its gain or more, and over all bounds, times the bounds, to the
    greatest sum.
    """
    many, places = len(columns), len(bounds)
    rows = []
    for at, bound in enumerate(bounds):
        slack = [1 if at == other else 0 for other in range(places)]
        rows.append([column[at] for column in columns] + slack + [bound])
    rows.append([-gain for gain in gains] + [0] * (places + 1))
    basis, unit = list(range(many, many + places)), 1
    while min(rows[-1][:-1]) < 0:
        column = [number < 0 for number in rows[-1]].index(True)
        row = leaving_row(rows, basis, column)
        rows, unit = pivoted(rows, unit, row, column), rows[row][column]
        basis[row] = column
    values = [0] * (many + places)
    for row, variable in enumerate(basis):
        values[variable] = rows[row][-1]
    return values[:many], rows[-1][many:-1], unit


def greatest_sum(columns, bounds):
    """Find numbers with the greatest sum, for columns that each have a number greater than 0, and none less than 0."""
    return greatest_value(columns, [1] * len(columns), bounds)

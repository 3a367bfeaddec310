"""Sums of columns of integers with weights from 0 on: which rows are such sums, and why the others are not.

This is the first phase of the simplex method in integers: each row of the table stands for itself divided
by the scale. Bland's rule (the first column that may enter, the first that may leave) lets it end.
"""

from math import gcd


def balance(columns, goal):
    """Return (weights, None) or (None, factors), one of which there is.

    weights are integers from 0 on, one for each column, by which the sum of the columns is a positive
    multiple of the goal. factors are integers, one for each entry of the goal, by which the sum of the
    entries of each column is at most 0, and that of the entries of the goal is above 0. The entries of
    the goal are from 0 on, one at least above 0.
    """
    table = _first_table(columns, goal)
    basis = [len(columns) + index for index in range(len(goal))]
    scale = 1
    entering = _entering(table, len(columns))
    while entering is not None:
        leaving = _leaving(table, basis, entering)
        table = _pivoted(table, leaving, entering, scale)
        scale = table[leaving][entering]
        basis[leaving] = entering
        entering = _entering(table, len(columns))
    if table[-1][-1] == 0:
        return _shortened(_weights(table, basis, len(columns))), None
    return None, _shortened([scale - worth for worth in table[-1][len(columns):-1]])


def _first_table(columns, goal):
    """Return the rows of the equations, each with a helping column of its own, and that of what is lacking."""
    rows = []
    for index, wanted in enumerate(goal):
        helping = [1 if at == index else 0 for at in range(len(goal))]
        rows.append([*[column[index] for column in columns], *helping, wanted])
    lacking = [-sum([row[at] for row in rows]) for at in range(len(columns))]
    return [*rows, [*lacking, *([0] * len(goal)), -sum(goal)]]


def _entering(table, many):
    """Return the first of so many columns with which less is lacking, or None."""
    for column in range(many):
        if table[-1][column] < 0:
            return column
    return None


def _leaving(table, basis, entering):
    """Return the index of the row that first comes to 0 when the column enters."""
    best = None
    for index, column in enumerate(basis):
        step = table[index][entering]
        if step > 0:
            # The quotients of the last entries and the steps are compared by products.
            here = (table[index][-1], step, column, index)
            if best is None or _comes_first(here, best):
                best = here
    return best[3]


def _comes_first(one, other):
    left, right = one[0] * other[1], other[0] * one[1]
    return left < right or (left == right and one[2] < other[2])


def _pivoted(table, leaving, entering, scale):
    """Return the table with the column in the basis; what it is divided by is the new scale."""
    pivot = table[leaving]
    rows = []
    for index, row in enumerate(table):
        if index == leaving:
            rows.append(row)
        else:
            # The division leaves no rest: the entries are determinants of the first table.
            rows.append([(pivot[entering] * entry - row[entering] * less) // scale
                         for entry, less in zip(row, pivot)])
    return rows


def _weights(table, basis, many):
    weights = [0] * many
    for index, column in enumerate(basis):
        if column < many:
            weights[column] = table[index][-1]
    return weights


def _shortened(row):
    """Return the row divided by what divides all of its entries."""
    divisor = 0
    for entry in row:
        divisor = gcd(divisor, entry)
    return [entry // divisor for entry in row] if divisor > 1 else row

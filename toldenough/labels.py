"""The labels that rules of a kind give to some points, all together."""

from toldenough.checks import checked_points
from toldenough.masks import longer_parts, mask_of
from toldenough.solvers import solver_of


def labelings(kind, points):
    """Return the ascending list of the tuples of labels that some rule of the kind gives to the points."""
    known = checked_points(kind, points)
    many = len(known)
    solver = solver_of(kind, [(point, False) for point in known] + [(point, True) for point in known])
    rows = [((), 0)]
    for index in range(many):
        longer = [((*row, label), mask | mask_of([index + many if label else index]))
                  for row, mask in rows for label in (False, True)]
        rows = [(row, mask) for row, mask in longer if solver.fits(mask)]
    return [row for row, _ in rows]


def shattered(kind, points):
    """Return the list of all parts of the points that have all labelings, in the order of parts."""
    rows = labelings(kind, points)
    found = []
    parts = [()]
    while parts:
        found = found + parts
        # A part without its last index has all labelings if the part has.
        parts = [part for part in longer_parts(parts, len(rows[0])) if _has_all(rows, part)]
    return found


def _has_all(rows, part):
    return len({tuple([row[index] for index in part]) for row in rows}) == 1 << len(part)


def dimension(kind, points):
    """Return the length of the longest part of the points that has all labelings."""
    return len(shattered(kind, points)[-1])

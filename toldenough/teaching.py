"""By how many labels one labeling of some points is told from all others."""

from toldenough.errors import NoLabeling
from toldenough.forms import is_label, is_row
from toldenough.labels import labelings
from toldenough.masks import longer_parts


def teaching(kind, points, labels):
    """Return the first part, in the order of parts, by whose labels no other labeling has the given ones."""
    rows = labelings(kind, points)
    # The form comes first: Python takes 1 and True for equal, the package does not.
    if not is_row(labels) or not all([is_label(label) for label in labels]) or tuple(labels) not in rows:
        raise NoLabeling(labels)
    return _first_telling(rows, labels)


def _first_telling(rows, labels):
    """Return the first part by which the labels are told from those of all other rows."""
    parts = [()]
    while True:
        for part in parts:
            if len([row for row in rows if _agrees(row, labels, part)]) == 1:
                return part
        parts = longer_parts(parts, len(labels))


def _agrees(row, labels, part):
    return all([row[index] == labels[index] for index in part])


def teaching_number(kind, points):
    """Return the greatest length of the parts by which the labelings of the points are told."""
    rows = labelings(kind, points)
    return max([len(_first_telling(rows, row)) for row in rows])

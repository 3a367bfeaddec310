"""Deeds on the examples of a desk and its number of lies.

A state is a pair of the tuple of rows (name, point, label) and the number of lies; it is never changed itself.
"""

from toldenough.checks import check_lies, check_point
from toldenough.errors import BadLabel, BadName, Held, NotHeld
from toldenough.forms import is_form, is_label, is_word

# The words of the deeds, and how long they are with what stands behind the word.
DEEDS = (("put", 4), ("drop", 2), ("allow", 2))


def is_deed(thing):
    """Tell whether the thing has the form of a deed."""
    return any([is_form(thing, word, many) for word, many in DEEDS])


def after(kind, state, deed):
    """Return the state behind the deed, which has the form of one; raise the error if it cannot be done."""
    rows, lies = state
    if deed[0] == "put":
        _, name, point, label = deed
        return _with_example(kind, rows, name, point, label), lies
    if deed[0] == "drop":
        return _without_example(rows, deed[1]), lies
    check_lies(deed[1])
    return rows, deed[1]


def _with_example(kind, rows, name, point, label):
    if not is_word(name):
        raise BadName(name)
    if name in [row[0] for row in rows]:
        raise Held(name)
    check_point(kind, point)
    if not is_label(label):
        raise BadLabel(label)
    return (*rows, (name, tuple(point), label))


def _without_example(rows, name):
    if name not in [row[0] for row in rows]:
        raise NotHeld(name)
    return tuple([row for row in rows if row[0] != name])

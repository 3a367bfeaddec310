"""The errors that several functions raise for wrong arguments."""

from toldenough.errors import BadLies, BadPoint, UnlikePlaces
from toldenough.forms import is_integer, is_point


def check_places(kind, *samples):
    """Raise UnlikePlaces unless the samples, of which some may be None, have the places of the kind."""
    for sample in samples:
        if sample is not None and sample.places != kind.places:
            raise UnlikePlaces()


def check_point(kind, point):
    """Raise BadPoint unless the object is a point of the places of the kind."""
    if not is_point(point, kind.places):
        raise BadPoint(point)


def check_lies(lies):
    """Raise BadLies unless the object is an integer from 0 on."""
    if not is_integer(lies) or lies < 0:
        raise BadLies(lies)


def checked_points(kind, points):
    """Return the points as a list of tuples; each is a point of the places of the kind, and occurs once."""
    checked = []
    for thing in points:
        if not is_point(thing, kind.places) or tuple(thing) in checked:
            raise BadPoint(thing)
        checked.append(tuple(thing))
    return checked

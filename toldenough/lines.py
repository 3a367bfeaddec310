"""What a sample settles along a line of points."""

from toldenough.checks import check_lies, check_places, check_point
from toldenough.errors import BadStep
from toldenough.fitting import settled
from toldenough.forms import is_point
from toldenough.kinds import Contrary, Pair


def line(kind, sample, point, step, *, lies=0):
    """Return the list of triples (first, last, word): what is settled at point + t * step for all integers t."""
    check_places(kind, sample)
    check_point(kind, point)
    _check_step(kind, step)
    check_lies(lies)
    points = sorted(set([other for other, _ in sample]))
    cuts = sorted(set(_cuts(kind, points, point, step)))
    return _stretches(cuts, lambda at: settled(kind, sample, _point_at(point, step, at), lies=lies))


def _check_step(kind, step):
    if not is_point(step, kind.places) or all([by == 0 for by in step]):
        raise BadStep(step)


def _cuts(kind, points, point, step):
    """Return the integers at which alone a stretch can begin; some of them perhaps more than once."""
    if isinstance(kind, Contrary):
        return _cuts(kind.kind, points, point, step)
    if isinstance(kind, Pair):
        return _cuts(kind.one, points, point, step) + _cuts(kind.other, points, point, step)
    return kind.cuts(points, point, step)


def _point_at(point, step, at):
    return tuple([start + at * by for start, by in zip(point, step)])


def _stretches(cuts, word_at):
    """Return the stretches of the integers with the same word, which changes at cuts alone."""
    stretches = []
    first, word = None, word_at(cuts[0] - 1 if cuts else 0)
    for cut in cuts:
        following = word_at(cut)
        if following != word:
            stretches.append((first, cut - 1, word))
            first, word = cut, following
    return [*stretches, (first, None, word)]

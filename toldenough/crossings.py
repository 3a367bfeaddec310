"""Where what a kind says of the points of a line can change: at cuts, integers t that stand for point + t * step.

Between one cut and the next, that one left out, nothing changes. The points are those of examples.
"""

from toldenough.masks import longer_parts
from toldenough.spans import is_spanned, weights_of


def cuts_of_orders(points, point, step):
    """Return the cuts for kinds that compare entries: where an entry is that of one of the points."""
    cuts = []
    for other in points:
        for start, by, entry in zip(point, step, other):
            if by != 0:
                cuts.extend(_cuts_beside(entry - start, by))
    return cuts


def cuts_of_hulls(points, point, step):
    """Return the cuts for kinds that weigh points: where the line crosses a flat span of some of the points.

    Such a span is one of as many of the points as there are places, or fewer: where more are needed, all lies in it.
    """
    cuts = []
    parts = [()]
    for _ in range(len(step)):
        parts = longer_parts(parts, len(points))
        for part in parts:
            cuts.extend(_cuts_at_span([points[index] for index in part], point, step))
    return cuts


def _cuts_at_span(points, point, step):
    """Return the cuts where the line crosses the span of the points; none if it stays in it, or out of it."""
    rows = [[1, *other] for other in points]
    along = [0, *step]
    if is_spanned(along, rows):
        return []
    weights = weights_of([1, *point], [*rows, along])
    if weights is None:
        return []
    # The point is the weighted sum divided by the sum of the weights of points, as its first entry is 1.
    return _cuts_beside(-weights[-1], sum(weights[:-1]))


def _cuts_beside(much, by):
    """Return the cuts that part the quotient from the integers below it, and from those above it."""
    return [-(-much // by), much // by + 1]

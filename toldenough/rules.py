"""What rules say of points. Lists may stand for tuples in a rule, at every depth."""

from toldenough.spans import is_spanned


def _half_says(rule, point):
    _, weights, bound = rule
    return sum([weight * entry for weight, entry in zip(weights, point)]) >= bound


def _box_says(rule, point):
    _, ranges = rule
    return all([_lies_between(entry, low, high) for entry, (low, high) in zip(point, ranges)])


def _lies_between(entry, low, high):
    """Tell whether the entry is at least low and at most high, where these are not None."""
    return (low is None or entry >= low) and (high is None or entry <= high)


def _rise_says(rule, point):
    _, corners = rule
    return any([_lies_above(point, corner) for corner in corners])


def _lies_above(point, corner):
    """Tell whether each entry is at least that of the corner, where this is not None."""
    return all([low is None or entry >= low for entry, low in zip(point, corner)])


def _flat_says(rule, point):
    _, points = rule
    # With an entry 1 ahead of each, the factors of a sum of points have the sum 1.
    return is_spanned([1, *point], [[1, *other] for other in points])


def _turns_says(rule, point):
    _, label, changes = rule
    for change in changes:
        if change <= point[0]:
            label = not label
    return label


_PLAIN = {
    "half": _half_says,
    "box": _box_says,
    "rise": _rise_says,
    "flat": _flat_says,
    "turns": _turns_says,
}


def says(rule, point):
    """Return the label that a rule of any kind gives to a point of its places."""
    word = rule[0]
    if word == "not":
        return not says(rule[1], point)
    if word == "both":
        return says(rule[1], point) and says(rule[2], point)
    if word == "either":
        return says(rule[1], point) or says(rule[2], point)
    if word in ("first", "second"):
        return says(rule[1], point)
    plain_says = _PLAIN[word]
    return plain_says(rule, point)

"""The plain kinds that weigh points, Halves and Flats: rules that fit, and certificates that none does.

yeses and noes are dicts from the numbers of examples to their points.
"""

from toldenough.balances import balance
from toldenough.forms import is_form, is_integer, is_number_of, is_row, is_row_of
from toldenough.spans import weights_of


def answer_of_halves(places, yeses, noes):
    """Return the pair of a rule that fits and None, or of None and a certificate that no rule does."""
    columns = [[*point, 1, 1] for point in yeses.values()]
    columns = columns + [[*[-entry for entry in point], -1, 0] for point in noes.values()]
    weights, factors = balance(columns, [0] * (places + 1) + [1])
    if weights is None:
        # The sum is at most 0 at each yes, from 0 on at each no without the last factor, which is above 0.
        *turned, much, more = factors
        return ("half", tuple([-factor for factor in turned]), much + more), None
    pairs = [(number, weight) for number, weight in zip([*yeses, *noes], weights) if weight != 0]
    return None, ("meet", [pair for pair in pairs if pair[0] in yeses], [pair for pair in pairs if pair[0] in noes])


def is_meet(thing, yeses, noes):
    """Tell whether the thing is a certificate that the yes points and the no points meet."""
    if not is_form(thing, "meet", 3):
        return False
    _, ours, theirs = thing
    if not _are_weights(ours, yeses) or not _are_weights(theirs, noes):
        return False
    if len(ours) == 0 or not all([weight > 0 for _, weight in [*ours, *theirs]]):
        return False
    return _weighted(ours, yeses) == _weighted(theirs, noes)


def answer_of_flats(yeses, noes):
    """Return the pair of a rule that fits and None, or of None and a certificate that no rule does."""
    rows = [[1, *point] for point in yeses.values()]
    for number, point in noes.items():
        weights = weights_of([1, *point], rows)
        if weights is not None:
            return None, ("span", number, [pair for pair in zip(yeses, weights) if pair[1] != 0])
    return ("flat", tuple(yeses.values())), None


def is_span(thing, yeses, noes):
    """Tell whether the thing is a certificate that the yes points span a no point."""
    if not is_form(thing, "span", 3):
        return False
    _, number, pairs = thing
    if not is_number_of(number, noes) or not _are_weights(pairs, yeses):
        return False
    total = sum([weight for _, weight in pairs])
    return total != 0 and _weighted(pairs, yeses) == [total * entry for entry in [1, *noes[number]]]


def _are_weights(thing, points):
    """Tell whether the thing is a list of pairs of unlike numbers of the points and integers."""
    if not is_row(thing):
        return False
    seen = set()
    for pair in thing:
        if not is_row_of(pair, 2):
            return False
        number, weight = pair
        if not is_number_of(number, points) or number in seen or not is_integer(weight):
            return False
        seen.add(number)
    return True


def _weighted(pairs, points):
    """Return the sum of the weights, then that of the weighted points; there is a pair, or the list is empty."""
    rows = [[weight * entry for entry in [1, *points[number]]] for number, weight in pairs]
    return [sum(column) for column in zip(*rows)]

"""What it costs to ask for the labels of points, one after another, until all are known."""

from toldenough.errors import BadPrices
from toldenough.forms import is_integer, is_row_of
from toldenough.labels import labelings
from toldenough.splits import Splits

LEAST_PRICE = 1
GREATEST_PRICE = 99


def asks(kind, points, *, prices=None):
    """Return the least cost of an ask tree."""
    return _best(kind, points, prices)[0]


def ask_tree(kind, points, *, prices=None):
    """Return an ask tree with the least cost: a labeling, or a triple (index, tree for no, tree for yes)."""
    return _best(kind, points, prices)[1]


def _best(kind, points, prices):
    """Return the pair of the least cost and a tree with this cost."""
    splits = Splits(labelings(kind, points))
    many = len(splits.yeses)
    if prices is None:
        prices = [LEAST_PRICE] * many
    elif not is_row_of(prices, many) or not all([_is_price(price) for price in prices]):
        raise BadPrices(prices)
    return _best_tree(splits, prices, splits.every, {})


def _is_price(thing):
    return is_integer(thing) and LEAST_PRICE <= thing <= GREATEST_PRICE


def _best_tree(splits, prices, mask, known):
    """Return the pair of the least cost and a tree for the labelings of the mask; known are the pairs found so far."""
    if mask in known:
        return known[mask]
    best = None
    for index, noes, yeses in splits.ways(mask):
        no_cost, no_tree = _best_tree(splits, prices, noes, known)
        yes_cost, yes_tree = _best_tree(splits, prices, yeses, known)
        cost = prices[index] + max(no_cost, yes_cost)
        if best is None or cost < best[0]:
            best = (cost, (index, no_tree, yes_tree))
    if best is None:
        best = (0, splits.rows_in(mask)[0])
    known[mask] = best
    return best

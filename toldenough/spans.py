"""Which rows of integers are sums of rational multiples of other ones."""


def lead_of(row):
    """Return the index of the first entry that is not 0, or None if there is none."""
    for index, entry in enumerate(row):
        if entry != 0:
            return index
    return None


def reduced(row, basis):
    """Return a multiple of the row less multiples of the rows of the basis, with 0 at their leads.

    The factor of the row itself is not 0, and all numbers stay integers.
    """
    rest = list(row)
    for lead, pivot in basis:
        have = rest[lead]
        if have != 0:
            scale = pivot[lead]
            rest = [scale * entry - have * less for entry, less in zip(rest, pivot)]
    return rest


def basis_of(rows, width):
    """Return a list of pairs (lead, row) whose rows span what the given rows span, as far as their first entries go.

    So many entries of a row count, the width; those behind them only take part in the sums.
    Each row is 0 at the leads of the rows ahead of it.
    """
    basis = []
    for row in rows:
        rest = reduced(row, basis)
        lead = lead_of(rest[:width])
        if lead is not None:
            basis.append((lead, rest))
    return basis


def is_spanned(row, rows):
    """Tell whether the row is a sum of rational multiples of the rows."""
    return lead_of(reduced(row, basis_of(rows, len(row)))) is None


def weights_of(row, rows):
    """Return integers, one for each of the rows, by which their sum is a multiple of the row, but for the factor 0.

    Return None if the row is no sum of rational multiples of the rows.
    """
    width = len(row)
    # Behind each row stands a 1 at its own place, so that the sums keep the factors they are made with.
    tagged = [[*other, *_unit(index, len(rows))] for index, other in enumerate(rows)]
    rest = reduced([*row, *([0] * len(rows))], basis_of(tagged, width))
    if lead_of(rest[:width]) is not None:
        return None
    return [-factor for factor in rest[width:]]


def _unit(index, many):
    return [1 if at == index else 0 for at in range(many)]

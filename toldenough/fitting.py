"""How many examples of a sample must be wrong, and what the sample says of other points."""

from toldenough.checks import check_lies, check_places, check_point
from toldenough.masks import mask_below, mask_of
from toldenough.solvers import fitted_most, solver_of


def cost(kind, sample, *, given=None):
    """Return the least number of mistakes in the sample of a rule that fits given, or None if none does."""
    found = _best(kind, sample, given)
    return None if found is None else found[0]


def best_rule(kind, sample, *, given=None):
    """Return a rule that fits given with as few mistakes in the sample as can be, or None."""
    found = _best(kind, sample, given)
    return None if found is None else found[1]


def _best(kind, sample, given):
    """Return the pair of the cost and a rule that makes so many mistakes, or None."""
    check_places(kind, sample, given)
    pairs = sample.examples()
    if given is not None:
        pairs = pairs + given.examples()
    solver = solver_of(kind, pairs)
    found = fitted_most(solver, len(sample), mask_below(len(pairs)) - mask_below(len(sample)))
    if found is None:
        return None
    wrong, mask = found
    return wrong, solver.rule(mask)


def costs(kind, sample, point):
    """Return the pair of the costs with the point given as yes, and as no."""
    check_places(kind, sample)
    check_point(kind, point)
    return _costs(kind, sample, tuple(point))


def strength(kind, sample, point):
    """Return how much more it costs that the point is no than that it is yes."""
    check_places(kind, sample)
    check_point(kind, point)
    yes, no = _costs(kind, sample, tuple(point))
    return no - yes


def settled(kind, sample, point, *, lies=0):
    """Return "yes", "no", "open" or "none": the labels of the point that at most so many lies allow."""
    check_places(kind, sample)
    check_point(kind, point)
    check_lies(lies)
    yes, no = _costs(kind, sample, tuple(point))
    if yes <= lies:
        return "open" if no <= lies else "yes"
    return "no" if no <= lies else "none"


def _costs(kind, sample, point):
    many = len(sample)
    # Both labels stand behind the sample, and each is given by itself: the solver serves both costs.
    solver = solver_of(kind, sample.examples() + [(point, True), (point, False)])
    yes, _ = fitted_most(solver, many, mask_of([many]))
    no, _ = fitted_most(solver, many, mask_of([many + 1]))
    return yes, no

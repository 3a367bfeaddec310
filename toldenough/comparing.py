"""Whether two samples say the same, and rules by which they are parted."""

from toldenough.checks import check_places
from toldenough.masks import mask_below, mask_of
from toldenough.solvers import solver_of


def says_all(kind, one, other):
    """Tell whether every rule of the kind that fits one sample fits the other."""
    return parted(kind, one, other) is None


def parted(kind, one, other):
    """Return a rule that fits one and not the example of other with the index, and this index; None if none does.

    The index is the first one for which there is such a rule.
    """
    check_places(kind, one, other)
    # Behind the examples of one stand those of other with labels exchanged: each is to be fitted beside one.
    solver = solver_of(kind, one.examples() + other.turned().examples())
    for index in range(len(other)):
        mask = mask_below(len(one)) | mask_of([len(one) + index])
        if solver.fits(mask):
            return solver.rule(mask), index
    return None


def alike(kind, one, other):
    """Tell whether exactly the same rules of the kind fit both samples."""
    return says_all(kind, one, other) and says_all(kind, other, one)

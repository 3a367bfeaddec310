"""Parts of a sample: which contradict each other, which are to be left out, and which are needed."""

from toldenough.checks import check_places, check_point
from toldenough.errors import Unfit
from toldenough.masks import least_parts, mask_below, mask_of, numbers_in
from toldenough.solvers import solver_of


def conflicts(kind, sample):
    """Return the list of all least parts that no rule fits, in the order of parts."""
    check_places(kind, sample)
    solver = solver_of(kind, sample.examples())
    return least_parts(len(sample), lambda mask: not solver.fits(mask))


def repairs(kind, sample):
    """Return the list of all least parts without which some rule fits the sample, in the order of parts."""
    check_places(kind, sample)
    solver = solver_of(kind, sample.examples())
    every = mask_below(len(sample))
    return least_parts(len(sample), lambda mask: solver.fits(every & ~mask))


def reasons(kind, sample, point):
    """Return the list of all least parts that settle the point as the sample does, in the order of parts."""
    check_places(kind, sample)
    check_point(kind, point)
    many = len(sample)
    every = mask_below(many)
    yes, no = mask_of([many]), mask_of([many + 1])
    solver = solver_of(kind, sample.examples() + [(tuple(point), True), (tuple(point), False)])
    may_be_yes, may_be_no = solver.fits(every | yes), solver.fits(every | no)
    if not may_be_yes and not may_be_no:
        raise Unfit()
    if may_be_yes and may_be_no:
        return []
    # Some rule fits each part with the label that the sample settles: no rule may with the other one.
    barred = no if may_be_yes else yes
    return least_parts(many, lambda mask: not solver.fits(mask | barred))


def idle(kind, sample):
    """Return the ascending list of the indexes each of which can be left out, alone, with nothing lost."""
    check_places(kind, sample)
    solver = _solver_with_contraries(kind, sample)
    every = mask_below(len(sample))
    return [index for index in range(len(sample)) if _says_rest(solver, len(sample), every - mask_of([index]))]


def cores(kind, sample):
    """Return the list of all least parts that say the same as the sample, in the order of parts."""
    check_places(kind, sample)
    solver = _solver_with_contraries(kind, sample)
    return least_parts(len(sample), lambda mask: _says_rest(solver, len(sample), mask))


def _solver_with_contraries(kind, sample):
    """Return a solver for the examples of the sample, and behind them the same ones with labels exchanged."""
    return solver_of(kind, sample.examples() + sample.turned().examples())


def _says_rest(solver, many, mask):
    """Tell whether every rule that fits the examples of the mask fits the rest of the first so many ones.

    If no rule fits the mask this holds, and if no rule fits the sample it holds only then.
    """
    rest = mask_below(many) & ~mask
    return not any([solver.fits(mask | mask_of([many + index])) for index in numbers_in(rest)])

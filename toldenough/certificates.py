"""Certificates that every rule of a kind makes more than so many mistakes."""

from toldenough.checks import check_lies, check_places
from toldenough.forms import is_form, is_integer, is_number_of, is_row_of
from toldenough.kinds import Contrary, Pair
from toldenough.masks import mask_below, mask_of, numbers_in
from toldenough.proofs import copied, numbers_of
from toldenough.solvers import fitted_most, solver_of


def certificate(kind, sample, lies=0, *, given=None):
    """Return a certificate that every rule that fits given makes more than lies mistakes in the sample, or None."""
    check_places(kind, sample, given)
    check_lies(lies)
    pairs = _pairs(sample, given)
    solver = solver_of(kind, pairs)
    found = fitted_most(solver, len(sample), mask_below(len(pairs)) - mask_below(len(sample)))
    if found is not None and found[0] <= lies:
        return None
    # The parts of it may be the same objects, and each list that is returned is a new one.
    return copied(_proof(solver, len(sample), mask_below(len(pairs)), lies))


def _pairs(sample, given):
    """Return the examples of the sample and behind them those of given."""
    return sample.examples() + (given.examples() if given is not None else [])


def _proof(solver, many, mask, lies):
    """Return a certificate for the active examples of the mask, the first so many of them those of the sample."""
    plain = solver.proof(_least_failing(solver, mask))
    if lies == 0:
        return plain
    return ("wrong", plain, [(number, _proof(solver, many, mask - mask_of([number]), lies - 1))
                             for number in _row_numbers(plain, many)])


def _least_failing(solver, mask):
    """Return a mask within the mask that no rule fits, all whose proper parts some rule fits.

    The first examples are left out first, so that those of a sample stay only where they are needed.
    """
    for number in numbers_in(mask):
        less = mask - mask_of([number])
        if not solver.fits(less):
            mask = less
    return mask


def _row_numbers(plain, many):
    """Return the ascending list of the numbers below many in a plain certificate."""
    return [number for number in sorted(set(numbers_of(plain))) if number < many]


def is_certificate(kind, sample, thing, lies=0, *, given=None):
    """Tell whether the thing is a certificate that every rule that fits given makes more than lies mistakes."""
    check_places(kind, sample, given)
    check_lies(lies)
    pairs = _pairs(sample, given)
    yeses = {number: point for number, (point, label) in enumerate(pairs) if label}
    noes = {number: point for number, (point, label) in enumerate(pairs) if not label}
    return _is_proof(kind, thing, yeses, noes, lies, len(sample))


def _is_proof(kind, thing, yeses, noes, lies, many):
    """Tell whether the thing is a certificate for these active examples."""
    if lies == 0:
        return _is_plain(kind, thing, yeses, noes)
    if not is_form(thing, "wrong", 3) or not _is_plain(kind, thing[1], yeses, noes):
        return False
    rows = thing[2]
    numbers = _row_numbers(thing[1], many)
    if not is_row_of(rows, len(numbers)):
        return False
    for row, number in zip(rows, numbers):
        if not is_row_of(row, 2) or not is_integer(row[0]) or row[0] != number:
            return False
        if not _is_proof(kind, row[1], _without(yeses, number), _without(noes, number), lies - 1, many):
            return False
    return True


def _without(points, number):
    return {other: point for other, point in points.items() if other != number}


def _is_plain(kind, thing, yeses, noes):
    """Tell whether the thing is a plain certificate that no rule of the kind fits these examples."""
    if isinstance(kind, Contrary):
        return is_form(thing, "not", 2) and _is_plain(kind.kind, thing[1], noes, yeses)
    if not isinstance(kind, Pair):
        return kind.proves(thing, yeses, noes)
    if kind.word == "any":
        return (is_form(thing, "neither", 3) and _is_plain(kind.one, thing[1], yeses, noes)
                and _is_plain(kind.other, thing[2], yeses, noes))
    if kind.word == "both":
        return _is_tree(kind, thing, yeses, noes, {}, {})
    return _is_tree(kind, thing, noes, yeses, {}, {})


def _is_tree(kind, thing, kept, left, ones, others):
    """Tell whether the thing is a tree for the examples that are left to place; kept ones are not placed."""
    if is_form(thing, "one", 2):
        return _is_leaf(kind.word, kind.one, thing[1], kept, ones)
    if is_form(thing, "other", 2):
        return _is_leaf(kind.word, kind.other, thing[1], kept, others)
    if not is_form(thing, "split", 4) or not is_number_of(thing[1], left):
        return False
    number = thing[1]
    rest = _without(left, number)
    return (_is_tree(kind, thing[2], kept, rest, {**ones, number: left[number]}, others)
            and _is_tree(kind, thing[3], kept, rest, ones, {**others, number: left[number]}))


def _is_leaf(word, kind, thing, kept, placed):
    """Tell whether the thing is a plain certificate of the kind for the kept and the placed examples."""
    if word == "both":
        return _is_plain(kind, thing, kept, placed)
    return _is_plain(kind, thing, placed, kept)

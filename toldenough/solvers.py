"""Which of some examples a rule of a kind fits together: a rule, or a plain certificate that none does.

A solver is made for a kind and a list of examples. It is asked about masks of them, the active examples:
fits(mask) tells whether some rule fits them, rule(mask) returns such a rule if there is one, and
proof(mask) a plain certificate if there is none. It keeps its answers, so that further masks are cheap.
"""

from toldenough.kinds import Contrary, Pair
from toldenough.masks import longer_parts, mask_below, mask_of, numbers_in
from toldenough.proofs import numbers_of
from toldenough.rules import says


class PlainSolver:
    """A solver for a plain kind."""

    def __init__(self, kind, points, labels):
        self.kind = kind
        self.points = points
        self.labels = labels
        self.answers = {}
        self.fitting = []
        self.failing = []

    def fits(self, mask):
        """Tell whether some rule fits the examples of the mask."""
        return self._answer(mask)[0] is not None

    def rule(self, mask):
        """Return a rule that fits the examples of the mask, or None."""
        return self._answer(mask)[0]

    def proof(self, mask):
        """Return a certificate that no rule fits the examples of the mask, or None."""
        return self._answer(mask)[1]

    def _answer(self, mask):
        if mask not in self.answers:
            self.answers[mask] = self._known(mask) or self._found(mask)
        return self.answers[mask]

    def _known(self, mask):
        """Return an answer that was found for another mask and holds for this one, or None."""
        for fitted, rule in self.fitting:
            if mask & fitted == mask:
                return rule, None
        for used, proof in self.failing:
            if mask & used == used:
                return None, proof
        return None

    def _found(self, mask):
        numbers = numbers_in(mask)
        yeses = {number: self.points[number] for number in numbers if self.labels[number]}
        noes = {number: self.points[number] for number in numbers if not self.labels[number]}
        rule, proof = self.kind.answer(yeses, noes)
        if proof is None:
            self.fitting.append((self._fitted(rule), rule))
        else:
            self.failing.append((mask_of(numbers_of(proof)), proof))
        return rule, proof

    def _fitted(self, rule):
        """Return the mask of all examples that the rule fits."""
        return mask_of([number for number, point in enumerate(self.points)
                        if says(rule, point) == self.labels[number]])


class ContrarySolver:
    """A solver for ~kind, over the one for the kind and the examples with labels exchanged."""

    def __init__(self, inner):
        self.inner = inner

    def fits(self, mask):
        """Tell whether some rule fits the examples of the mask."""
        return self.inner.fits(mask)

    def rule(self, mask):
        """Return a rule that fits the examples of the mask, if there is one."""
        return ("not", self.inner.rule(mask))

    def proof(self, mask):
        """Return a certificate that no rule fits the examples of the mask, if there is none."""
        return ("not", self.inner.proof(mask))


class SumSolver:
    """A solver for one + other."""

    def __init__(self, one, other):
        self.one = one
        self.other = other

    def fits(self, mask):
        """Tell whether some rule fits the examples of the mask."""
        return self.one.fits(mask) or self.other.fits(mask)

    def rule(self, mask):
        """Return a rule that fits the examples of the mask, if there is one."""
        if self.one.fits(mask):
            return ("first", self.one.rule(mask))
        return ("second", self.other.rule(mask))

    def proof(self, mask):
        """Return a certificate that no rule fits the examples of the mask, if there is none."""
        return ("neither", self.one.proof(mask), self.other.proof(mask))


class SplitSolver:
    """A solver for one & other, or one | other: the word is that of the rules.

    The examples of the mask split, the noes for "both" and the yeses for "either", must each be fitted
    by one or by other; the remaining ones by both.
    """

    def __init__(self, word, one, other, split):
        self.word = word
        self.one = one
        self.other = other
        self.split_mask = split
        self.placings = {}

    def fits(self, mask):
        """Tell whether some rule fits the examples of the mask."""
        return self._placing(mask) is not None

    def rule(self, mask):
        """Return a rule that fits the examples of the mask, if there is one."""
        ones, others = self._placing(mask)
        return (self.word, self.one.rule(ones), self.other.rule(others))

    def proof(self, mask):
        """Return a certificate that no rule fits the examples of the mask, if there is none."""
        kept = mask & ~self.split_mask
        return self._tree(kept, kept, mask & self.split_mask)

    def _placing(self, mask):
        """Return the masks of the examples that one fits, and that other fits, or None."""
        if mask not in self.placings:
            kept = mask & ~self.split_mask
            self.placings[mask] = self._placed(kept, kept, mask & self.split_mask)
        return self.placings[mask]

    def _placed(self, ones, others, left):
        """Return the masks grown by the examples that are left, each placed in one of them, or None."""
        if not self.one.fits(ones) or not self.other.fits(others):
            return None
        if left == 0:
            return ones, others
        bit = left & -left
        return self._placed(ones | bit, others, left - bit) or self._placed(ones, others | bit, left - bit)

    def _tree(self, ones, others, left):
        """Return the tree that shows that the examples that are left cannot be placed."""
        if not self.one.fits(ones):
            return ("one", self.one.proof(ones))
        if not self.other.fits(others):
            return ("other", self.other.proof(others))
        number = self._split_number(ones, others, left)
        bit = mask_of([number])
        return ("split", number, self._tree(ones | bit, others, left - bit),
                self._tree(ones, others | bit, left - bit))

    def _split_number(self, ones, others, left):
        """Return the number of an example that is left: one with which most of the two trees end at once."""
        best, most = None, -1
        for number in numbers_in(left):
            bit = mask_of([number])
            ends = [self.one.fits(ones | bit), self.other.fits(others | bit)].count(False)
            if ends > most:
                best, most = number, ends
        return best


def solver_of(kind, pairs):
    """Return a solver for the kind and the list of examples."""
    return _solver(kind, [point for point, _ in pairs], [label for _, label in pairs])


def _solver(kind, points, labels):
    if isinstance(kind, Contrary):
        return ContrarySolver(_solver(kind.kind, points, [not label for label in labels]))
    if not isinstance(kind, Pair):
        return PlainSolver(kind, points, labels)
    one, other = _solver(kind.one, points, labels), _solver(kind.other, points, labels)
    if kind.word == "any":
        return SumSolver(one, other)
    split = mask_of([number for number, label in enumerate(labels) if label == (kind.word == "either")])
    return SplitSolver(kind.word, one, other, split)


def fitted_most(solver, many, must):
    """Return (wrong, mask): how many of the first so many examples, as few as can be, some rule does not fit.

    The rule fits those of the mask must, and the mask is that of must and all other examples. Return None if
    no rule fits those of must.
    """
    if not solver.fits(must):
        return None
    every = mask_below(many) | must
    parts = [()]
    wrong = 0
    while True:
        for part in parts:
            mask = every & ~mask_of(part)
            if solver.fits(mask):
                return wrong, mask
        parts = longer_parts(parts, many)
        wrong = wrong + 1

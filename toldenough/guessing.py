"""How many labels of points, presented one after another, must be guessed wrong, and somebody who guesses so well."""

from toldenough.errors import BadIndex, BadLabel, NoLabeling
from toldenough.forms import is_index_below, is_label
from toldenough.labels import labelings
from toldenough.splits import Splits


def mistakes(kind, points):
    """Return the least number of wrong guesses that one can keep to, in whatever order the points are presented."""
    splits = Splits(labelings(kind, points))
    return Depths(splits).depth(splits.every)


def mistake_tree(kind, points):
    """Return a mistake tree of the depth that mistakes tells: (), or a triple (index, tree for no, tree for yes)."""
    splits = Splits(labelings(kind, points))
    depths = Depths(splits)
    return _tree(depths, splits.every, depths.depth(splits.every))


def _tree(depths, mask, depth):
    """Return a mistake tree of just this depth for the labelings of the mask; there is one at least as deep."""
    if depth == 0:
        return ()
    index, noes, yeses = [(at, noes, yeses) for at, noes, yeses in depths.splits.ways(mask)
                          if min(depths.depth(noes), depths.depth(yeses)) >= depth - 1][0]
    return (index, _tree(depths, noes, depth - 1), _tree(depths, yeses, depth - 1))


class Depths:
    """The depths of the deepest mistake trees for labelings that are left."""

    def __init__(self, splits):
        self.splits = splits
        self.known = {}

    def depth(self, mask):
        """Return the depth of the deepest mistake tree for the labelings of the mask; -1 if there are none."""
        if mask == 0:
            return -1
        if mask not in self.known:
            self.known[mask] = max([1 + min(self.depth(noes), self.depth(yeses))
                                    for _, noes, yeses in self.splits.ways(mask)], default=0)
        return self.known[mask]


class Guesser:
    """Somebody who guesses the labels of points, and is told the right ones."""

    def __init__(self, kind, points):
        self._splits = Splits(labelings(kind, points))
        self._depths = Depths(self._splits)
        self._mask = self._splits.every
        self._many_wrong = 0

    def guess(self, index):
        """Return the guess of the label of the point with this index."""
        self._check_index(index)
        return self._guessed(index)

    def tell(self, index, label):
        """Take the right label of the point with this index."""
        self._check_index(index)
        if not is_label(label):
            raise BadLabel(label)
        noes, yeses = self._splits.sides(self._mask, index)
        left = yeses if label else noes
        if left == 0:
            raise NoLabeling((index, label))
        if self._guessed(index) != label:
            self._many_wrong = self._many_wrong + 1
        self._mask = left

    def wrong(self):
        """Return how many labels that were told were not those that had been guessed."""
        return self._many_wrong

    def left(self):
        """Return the ascending list of the labelings that agree with all that was told."""
        return self._splits.rows_in(self._mask)

    def _check_index(self, index):
        if not is_index_below(index, len(self._splits.yeses)):
            raise BadIndex(index)

    def _guessed(self, index):
        """Return the label with the deeper mistake tree: a wrong guess makes what is left less deep."""
        noes, yeses = self._splits.sides(self._mask, index)
        return self._depths.depth(yeses) > self._depths.depth(noes)

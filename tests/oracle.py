"""What the document says of kinds, by trying all cases; kinds are written as tuples here.

("halves", 2), .., ("turns", 3), ("not", kind), ("both", one, other), ("either", one, other), ("any", one, other)
"""

import itertools
import random
from fractions import Fraction
from functools import lru_cache

from toldenough.kinds import Boxes, Flats, Halves, Rising, Turns

CLASSES = {"halves": Halves, "boxes": Boxes, "rising": Rising, "flats": Flats, "turns": Turns}


def built(spec):
    """Return the kind of the package."""
    if spec[0] == "not":
        return ~built(spec[1])
    if spec[0] == "both":
        return built(spec[1]) & built(spec[2])
    if spec[0] == "either":
        return built(spec[1]) | built(spec[2])
    if spec[0] == "any":
        return built(spec[1]) + built(spec[2])
    return CLASSES[spec[0]](spec[1])


def is_split(spec):
    """Tell whether the kind has & or |."""
    return spec[0] in ("both", "either") or any(is_split(part) for part in spec[1:] if isinstance(part, tuple))


def fits(spec, pairs):
    """Tell whether a rule of the kind fits all the examples."""
    return _fits(spec, frozenset(pairs))


@lru_cache(maxsize=None)
def _fits(spec, pairs):
    yeses = sorted(point for point, label in pairs if label)
    noes = sorted(point for point, label in pairs if not label)
    word = spec[0]
    if word == "not":
        return _fits(spec[1], frozenset((point, not label) for point, label in pairs))
    if word == "any":
        return _fits(spec[1], pairs) or _fits(spec[2], pairs)
    if word in ("both", "either"):
        placed = [pair for pair in pairs if pair[1] == (word == "either")]
        kept = pairs - set(placed)
        return any(_fits(spec[1], kept | {pair for pair, first in zip(placed, way) if first})
                   and _fits(spec[2], kept | {pair for pair, first in zip(placed, way) if not first})
                   for way in itertools.product((True, False), repeat=len(placed)))
    if word == "halves":
        return _separable(yeses, noes)
    if word == "boxes":
        return not any(yeses and all(min(column) <= entry <= max(column) for entry, column in zip(no, zip(*yeses)))
                       for no in noes)
    if word == "rising":
        return not any(all(low <= high for low, high in zip(yes, no)) for yes in yeses for no in noes)
    if word == "flats":
        rows = [(1, *point) for point in yeses]
        return all(_rank(rows) < _rank([*rows, (1, *no)]) for no in noes)
    labels = [label for _, label in sorted(pairs)]
    if len({point for point, _ in pairs}) < len(labels):
        return False
    return sum(one != other for one, other in zip(labels, labels[1:])) <= spec[1]


def _separable(yeses, noes):
    """Eliminate the weights and the bound, one after another, from the inequalities that they must meet."""
    rows = [(*point, -1, 0) for point in yeses] + [(*[-entry for entry in point], 1, -1) for point in noes]
    rows = {tuple(Fraction(entry) for entry in row) for row in rows}
    while rows and len(next(iter(rows))) > 1:
        above = [row for row in rows if row[0] > 0]
        below = [row for row in rows if row[0] < 0]
        left = {row[1:] for row in rows if row[0] == 0}
        for one, other in itertools.product(above, below):
            left.add(tuple(a / one[0] - b / other[0] for a, b in zip(one[1:], other[1:])))
        rows = left
    return all(row[0] >= 0 for row in rows)


def _rank(rows):
    rows = [[Fraction(entry) for entry in row] for row in rows]
    rank = 0
    for column in range(len(rows[0]) if rows else 0):
        pivot = next((row for row in rows[rank:] if row[column] != 0), None)
        if pivot is not None:
            rows.remove(pivot)
            rows.insert(rank, pivot)
            rows = [row if row is pivot else [entry - row[column] / pivot[column] * less
                                              for entry, less in zip(row, pivot)] for row in rows]
            rank += 1
    return rank


def parts(many):
    """Return all parts of so many indexes in the order of parts."""
    return [part for size in range(many + 1) for part in itertools.combinations(range(many), size)]


def least(found):
    """Return the parts no proper part of which is among them."""
    return [part for part in found if not any(set(other) < set(part) for other in found)]


def taken(pairs, part):
    return [pairs[index] for index in part]


def cost(spec, pairs, given=()):
    """Return the least number of examples to leave out so that the rest fits with given, or None."""
    kept = [len(part) for part in parts(len(pairs)) if fits(spec, [*taken(pairs, part), *given])]
    return len(pairs) - max(kept) if kept else None


def settled(spec, pairs, point, lies=0):
    yes, no = [cost(spec, pairs, [(point, label)]) for label in (True, False)]
    if yes <= lies and no <= lies:
        return "open"
    return "yes" if yes <= lies else "no" if no <= lies else "none"


def same(spec, pairs, part):
    """Tell whether exactly the same rules fit the part and the whole: none fits the part and not an example."""
    some = taken(pairs, part)
    return not any(fits(spec, [*some, (point, not label)]) for point, label in pairs)


def plain_specs(places):
    found = [(word, places) for word in ("halves", "boxes", "rising", "flats")]
    return found + ([("turns", most) for most in (0, 1, 2, 6)] if places == 1 else [])


def random_spec(chance, places, plain, nots=0.3, words=("both", "either", "any")):
    """Return a kind of so many plain kinds."""
    if plain == 1:
        spec = chance.choice(plain_specs(places))
    else:
        first = chance.randint(1, plain - 1)
        spec = (chance.choice(words), random_spec(chance, places, first, nots, words),
                random_spec(chance, places, plain - first, nots, words))
    while chance.random() < nots:
        spec = ("not", spec)
    return spec


def random_pairs(chance, places, many, reach):
    """Return so many examples with entries from -reach to reach."""
    return [(random_point(chance, places, reach), chance.random() < 0.5) for _ in range(many)]


def random_point(chance, places, reach):
    return tuple(chance.randint(-reach, reach) for _ in range(places))


def cases(seed, count, most_examples):
    """Return tuples (kind as a tuple, places, examples, reach) made from the seed, kinds of all forms among them."""
    chance = random.Random(seed)
    found = []
    for _ in range(count):
        places = chance.randint(1, 3)
        spec = random_spec(chance, places, chance.choice((1, 1, 2, 2, 3)))
        reach = chance.choice((1, 1, 2, 3, 99))
        found.append((spec, places, random_pairs(chance, places, chance.randint(0, most_examples), reach), reach))
    return found


def says_all(spec, one, other):
    """Tell whether no rule fits all of one and not some example of other."""
    return first_parting(spec, one, other) is None


def first_parting(spec, one, other):
    """Return the first index of an example of other that some rule that fits one does not fit, or None."""
    for index, (point, label) in enumerate(other):
        if fits(spec, [*one, (point, not label)]):
            return index
    return None


def labelings(spec, points):
    """Return the ascending list of the labels that rules give to the points."""
    return [labels for labels in itertools.product((False, True), repeat=len(points))
            if fits(spec, zip(points, labels))]


def shattered(spec, points):
    """Return the parts of the points that have all labelings."""
    rows = labelings(spec, points)
    return [part for part in parts(len(points)) if len({tuple(taken(row, part)) for row in rows}) == 2 ** len(part)]


def teaching(rows, labels):
    """Return the first part by whose labels the labels are told from all other rows."""
    return next(part for part in parts(len(labels))
                if [row for row in rows if taken(row, part) == taken(labels, part)] == [labels])


def random_points(chance, places, many, reach):
    """Return so many unlike points, or fewer."""
    return list(dict.fromkeys(random_point(chance, places, reach) for _ in range(many)))


def likely_pairs(chance, places, many, reach):
    """Return so many examples that rules of most kinds fit but for a few: yes in a range, or above a plane."""
    low, high = sorted(chance.randint(-reach, reach) for _ in range(2))
    turn = chance.choice((1, -1))
    pairs = []
    for _ in range(many):
        point = random_point(chance, places, reach)
        label = low <= turn * point[0] <= high if chance.random() < 0.5 else low <= turn * point[0]
        pairs.append((point, label))
    return pairs


def point_cases(seed, count):
    """Return tuples (kind as a tuple, points) made from the seed: kinds of all forms, none to five points."""
    chance = random.Random(seed)
    found = []
    for _ in range(count):
        places = chance.randint(1, 3)
        spec = random_spec(chance, places, chance.choice((1, 1, 2, 2, 3)))
        found.append((spec, random_points(chance, places, chance.randint(0, 5), chance.choice((1, 2, 3, 99)))))
    return found


def sides(rows, index):
    """Return the rows with no and with yes at the index."""
    return tuple(row for row in rows if not row[index]), tuple(row for row in rows if row[index])


@lru_cache(maxsize=None)
def asks(rows, prices):
    """Return the least cost of asking until one of the rows is left."""
    ways = [(price, sides(rows, index)) for index, price in enumerate(prices)]
    return min([price + max(asks(noes, prices), asks(yeses, prices))
                for price, (noes, yeses) in ways if noes and yeses], default=0)


@lru_cache(maxsize=None)
def mistakes(rows):
    """Return how many guesses are wrong if each point, guess and label is chosen as well as can be."""
    worst = 0
    for index in range(len(rows[0])):
        noes, yeses = sides(rows, index)
        if noes and yeses:
            guess_no = max(mistakes(noes), 1 + mistakes(yeses))
            guess_yes = max(1 + mistakes(noes), mistakes(yeses))
            worst = max(worst, min(guess_no, guess_yes))
    return worst

"""The plain kinds that compare entries, Boxes, Rising and Turns: rules that fit, and certificates that none does.

yeses and noes are dicts from the numbers of examples to their points.
"""

from toldenough.forms import is_form, is_number_of, is_row, is_row_of


def answer_of_boxes(places, yeses, noes):
    """Return the pair of a rule that fits and None, or of None and a certificate that no rule does."""
    if not yeses:
        return ("box", ((1, 0),) * places), None
    ends = [_ends_at(yeses, place) for place in range(places)]
    ranges = [(yeses[i][place], yeses[j][place]) for place, (i, j) in enumerate(ends)]
    for number, point in noes.items():
        if all([low <= entry <= high for entry, (low, high) in zip(point, ranges)]):
            return None, ("between", number, ends)
    return ("box", tuple(ranges)), None


def _ends_at(points, place):
    """Return the numbers of a point with the least entry at the place, and of one with the greatest."""
    return (min(points, key=lambda number: points[number][place]),
            max(points, key=lambda number: points[number][place]))


def is_between(thing, places, yeses, noes):
    """Tell whether the thing is a certificate that a no point lies between yes points."""
    if not is_form(thing, "between", 3):
        return False
    _, number, pairs = thing
    if not is_number_of(number, noes) or not is_row_of(pairs, places):
        return False
    return all([_encloses(pair, yeses, place, noes[number][place]) for place, pair in enumerate(pairs)])


def _encloses(pair, points, place, entry):
    """Tell whether the thing is a pair of numbers of points between whose entries at the place the entry lies."""
    if not is_row_of(pair, 2) or not all([is_number_of(number, points) for number in pair]):
        return False
    return points[pair[0]][place] <= entry <= points[pair[1]][place]


def answer_of_rising(yeses, noes):
    """Return the pair of a rule that fits and None, or of None and a certificate that no rule does."""
    for i, corner in yeses.items():
        for j, point in noes.items():
            if _lies_below(corner, point):
                return None, ("above", i, j)
    return ("rise", tuple(yeses.values())), None


def is_above(thing, yeses, noes):
    """Tell whether the thing is a certificate that a no point lies above a yes point."""
    if not is_form(thing, "above", 3):
        return False
    _, i, j = thing
    return is_number_of(i, yeses) and is_number_of(j, noes) and _lies_below(yeses[i], noes[j])


def _lies_below(one, other):
    return all([low <= high for low, high in zip(one, other)])


def answer_of_turns(most, yeses, noes):
    """Return the pair of a rule that fits and None, or of None and a certificate that no rule does."""
    rows = [(point[0], number, True) for number, point in yeses.items()]
    rows = sorted(rows + [(point[0], number, False) for number, point in noes.items()])
    for one, other in zip(rows, rows[1:]):
        if one[0] == other[0] and one[2] != other[2]:
            return None, ("turns", [one[1], other[1]])
    turns = [row for at, row in enumerate(rows) if at == 0 or row[2] != rows[at - 1][2]]
    if len(turns) > most + 1:
        return None, ("turns", [row[1] for row in turns[:most + 2]])
    return ("turns", turns[0][2] if turns else False, tuple([row[0] for row in turns[1:]])), None


def is_turning(thing, most, yeses, noes):
    """Tell whether the thing is a certificate that the labels turn too often along the line."""
    if not is_form(thing, "turns", 2) or not is_row(thing[1]):
        return False
    numbers = thing[1]
    if not all([is_number_of(number, yeses) or is_number_of(number, noes) for number in numbers]):
        return False
    pairs = [(yeses[number] if number in yeses else noes[number], number in yeses) for number in numbers]
    if not all([one[1] != other[1] for one, other in zip(pairs, pairs[1:])]):
        return False
    if len(pairs) == 2 and pairs[0][0] == pairs[1][0]:
        return True
    return len(pairs) == most + 2 and all([one[0] < other[0] for one, other in zip(pairs, pairs[1:])])

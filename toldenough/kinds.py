"""Kinds of rules: plain ones, and kinds put together of others."""

from toldenough.crossings import cuts_of_hulls, cuts_of_orders
from toldenough.errors import BadMost, BadPlaces, UnlikePlaces
from toldenough.forms import is_form, is_integer, is_integer_or_none, is_label, is_number_of_places, is_point
from toldenough.forms import is_row, is_row_of
from toldenough.hulls import answer_of_flats, answer_of_halves, is_meet, is_span
from toldenough.orders import answer_of_boxes, answer_of_rising, answer_of_turns, is_above, is_between, is_turning

GREATEST_MOST = 6

# The answer of a plain kind to examples is the pair of a rule that fits them and None, or of None and
# a certificate that no rule does; yeses and noes are dicts from the numbers of examples to their points.


class Halves:
    """Half-spaces."""

    def __init__(self, places):
        _check_number_of_places(places)
        self.places = places

    def has(self, thing):
        """Tell whether the thing is a rule of the kind."""
        return is_form(thing, "half", 3) and is_point(thing[1], self.places) and is_integer(thing[2])

    def reach(self):
        """Return a number that no conflict has more examples than."""
        return self.places + 2

    def text(self):
        """Return the words of the kind."""
        return f"halves {self.places}"

    def answer(self, yeses, noes):
        """Return the answer to these examples."""
        return answer_of_halves(self.places, yeses, noes)

    def proves(self, thing, yeses, noes):
        """Tell whether the thing is a certificate that no rule fits these examples."""
        return is_meet(thing, yeses, noes)

    def cuts(self, points, point, step):
        """Return the integers t at which what rules say of point + t * step can change."""
        return cuts_of_hulls(points, point, step)

    def __invert__(self):
        return Contrary(self)

    def __and__(self, other):
        return Pair("both", self, other)

    def __or__(self, other):
        return Pair("either", self, other)

    def __add__(self, other):
        return Pair("any", self, other)

    def __eq__(self, other):
        return isinstance(other, Halves) and self.places == other.places


class Boxes:
    """Products of ranges, one for each place."""

    def __init__(self, places):
        _check_number_of_places(places)
        self.places = places

    def has(self, thing):
        """Tell whether the thing is a rule of the kind."""
        if not is_form(thing, "box", 2) or not is_row_of(thing[1], self.places):
            return False
        return all([_is_row_of_bounds(pair, 2) for pair in thing[1]])

    def reach(self):
        """Return a number that no conflict has more examples than."""
        return max(self.places, 2) + 1

    def text(self):
        """Return the words of the kind."""
        return f"boxes {self.places}"

    def answer(self, yeses, noes):
        """Return the answer to these examples."""
        return answer_of_boxes(self.places, yeses, noes)

    def proves(self, thing, yeses, noes):
        """Tell whether the thing is a certificate that no rule fits these examples."""
        return is_between(thing, self.places, yeses, noes)

    def cuts(self, points, point, step):
        """Return the integers t at which what rules say of point + t * step can change."""
        return cuts_of_orders(points, point, step)

    def __invert__(self):
        return Contrary(self)

    def __and__(self, other):
        return Pair("both", self, other)

    def __or__(self, other):
        return Pair("either", self, other)

    def __add__(self, other):
        return Pair("any", self, other)

    def __eq__(self, other):
        return isinstance(other, Boxes) and self.places == other.places


class Rising:
    """Upward closed sets."""

    def __init__(self, places):
        _check_number_of_places(places)
        self.places = places

    def has(self, thing):
        """Tell whether the thing is a rule of the kind."""
        if not is_form(thing, "rise", 2) or not is_row(thing[1]):
            return False
        return all([_is_row_of_bounds(corner, self.places) for corner in thing[1]])

    def reach(self):
        """Return a number that no conflict has more examples than."""
        return 2

    def text(self):
        """Return the words of the kind."""
        return f"rising {self.places}"

    def answer(self, yeses, noes):
        """Return the answer to these examples."""
        return answer_of_rising(yeses, noes)

    def proves(self, thing, yeses, noes):
        """Tell whether the thing is a certificate that no rule fits these examples."""
        return is_above(thing, yeses, noes)

    def cuts(self, points, point, step):
        """Return the integers t at which what rules say of point + t * step can change."""
        return cuts_of_orders(points, point, step)

    def __invert__(self):
        return Contrary(self)

    def __and__(self, other):
        return Pair("both", self, other)

    def __or__(self, other):
        return Pair("either", self, other)

    def __add__(self, other):
        return Pair("any", self, other)

    def __eq__(self, other):
        return isinstance(other, Rising) and self.places == other.places


class Flats:
    """Flat spans of points."""

    def __init__(self, places):
        _check_number_of_places(places)
        self.places = places

    def has(self, thing):
        """Tell whether the thing is a rule of the kind."""
        if not is_form(thing, "flat", 2) or not is_row(thing[1]):
            return False
        return all([is_point(point, self.places) for point in thing[1]])

    def reach(self):
        """Return a number that no conflict has more examples than."""
        return self.places + 2

    def text(self):
        """Return the words of the kind."""
        return f"flats {self.places}"

    def answer(self, yeses, noes):
        """Return the answer to these examples."""
        return answer_of_flats(yeses, noes)

    def proves(self, thing, yeses, noes):
        """Tell whether the thing is a certificate that no rule fits these examples."""
        return is_span(thing, yeses, noes)

    def cuts(self, points, point, step):
        """Return the integers t at which what rules say of point + t * step can change."""
        return cuts_of_hulls(points, point, step)

    def __invert__(self):
        return Contrary(self)

    def __and__(self, other):
        return Pair("both", self, other)

    def __or__(self, other):
        return Pair("either", self, other)

    def __add__(self, other):
        return Pair("any", self, other)

    def __eq__(self, other):
        return isinstance(other, Flats) and self.places == other.places


class Turns:
    """Few changes along a line."""

    def __init__(self, most):
        if not is_integer(most) or not 0 <= most <= GREATEST_MOST:
            raise BadMost(most)
        self.places = 1
        self.most = most

    def has(self, thing):
        """Tell whether the thing is a rule of the kind."""
        if not is_form(thing, "turns", 3) or not is_label(thing[1]) or not is_row(thing[2]):
            return False
        changes = thing[2]
        if len(changes) > self.most or not all([is_integer(change) for change in changes]):
            return False
        return all([one < other for one, other in zip(changes, changes[1:])])

    def reach(self):
        """Return a number that no conflict has more examples than."""
        return self.most + 2

    def text(self):
        """Return the words of the kind."""
        return f"turns {self.most}"

    def answer(self, yeses, noes):
        """Return the answer to these examples."""
        return answer_of_turns(self.most, yeses, noes)

    def proves(self, thing, yeses, noes):
        """Tell whether the thing is a certificate that no rule fits these examples."""
        return is_turning(thing, self.most, yeses, noes)

    def cuts(self, points, point, step):
        """Return the integers t at which what rules say of point + t * step can change."""
        return cuts_of_orders(points, point, step)

    def __invert__(self):
        return Contrary(self)

    def __and__(self, other):
        return Pair("both", self, other)

    def __or__(self, other):
        return Pair("either", self, other)

    def __add__(self, other):
        return Pair("any", self, other)

    def __eq__(self, other):
        return isinstance(other, Turns) and self.most == other.most


class Contrary:
    """The rules that say no where a rule of the kind says yes."""

    def __init__(self, kind):
        self.places = kind.places
        self.kind = kind

    def has(self, thing):
        """Tell whether the thing is a rule of the kind."""
        return is_form(thing, "not", 2) and self.kind.has(thing[1])

    def reach(self):
        """Return a number that no conflict has more examples than, or None."""
        return self.kind.reach()

    def text(self):
        """Return the words of the kind."""
        return f"not {self.kind.text()}"

    def __invert__(self):
        return Contrary(self)

    def __and__(self, other):
        return Pair("both", self, other)

    def __or__(self, other):
        return Pair("either", self, other)

    def __add__(self, other):
        return Pair("any", self, other)

    def __eq__(self, other):
        return isinstance(other, Contrary) and self.kind == other.kind


class Pair:
    """Two kinds put together; the word is "both", "either" or "any", as in the text of the kind."""

    def __init__(self, word, one, other):
        if one.places != other.places:
            raise UnlikePlaces()
        self.places = one.places
        self.word = word
        self.one = one
        self.other = other

    def has(self, thing):
        """Tell whether the thing is a rule of the kind."""
        if self.word == "any":
            return ((is_form(thing, "first", 2) and self.one.has(thing[1]))
                    or (is_form(thing, "second", 2) and self.other.has(thing[1])))
        return is_form(thing, self.word, 3) and self.one.has(thing[1]) and self.other.has(thing[2])

    def reach(self):
        """Return a number that no conflict has more examples than, or None."""
        one, other = self.one.reach(), self.other.reach()
        if self.word != "any" or one is None or other is None:
            return None
        return one + other

    def text(self):
        """Return the words of the kind."""
        return f"{self.word} {self.one.text()} {self.other.text()}"

    def __invert__(self):
        return Contrary(self)

    def __and__(self, other):
        return Pair("both", self, other)

    def __or__(self, other):
        return Pair("either", self, other)

    def __add__(self, other):
        return Pair("any", self, other)

    def __eq__(self, other):
        return (isinstance(other, Pair) and self.word == other.word
                and self.one == other.one and self.other == other.other)


def _check_number_of_places(places):
    if not is_number_of_places(places):
        raise BadPlaces(places)


def _is_row_of_bounds(thing, many):
    """Tell whether the thing is a row of so many integers or None."""
    return is_row_of(thing, many) and all([is_integer_or_none(bound) for bound in thing])

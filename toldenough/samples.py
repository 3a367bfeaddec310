"""Samples: lists of examples of points of so many places."""

from toldenough.errors import BadExample, BadIndex, BadPlaces, UnlikePlaces
from toldenough.forms import copied_example, is_example, is_index_below, is_number_of_places, is_row


class Sample:
    """Examples in an order; the same example may occur more than once."""

    def __init__(self, places, examples=()):
        if not is_number_of_places(places):
            raise BadPlaces(places)
        if not is_row(examples):
            raise BadExample(0)
        for index, thing in enumerate(examples):
            if not is_example(thing, places):
                raise BadExample(index)
        self.places = places
        self._pairs = tuple([copied_example(example) for example in examples])

    def examples(self):
        """Return the list of the examples."""
        return list(self._pairs)

    def part(self, indexes):
        """Return the sample of the examples with these indexes, in the order of this sample."""
        chosen = self._checked(indexes)
        return Sample(self.places, [pair for index, pair in enumerate(self._pairs) if index in chosen])

    def without(self, indexes):
        """Return the sample of the examples with other indexes than these."""
        dropped = self._checked(indexes)
        return Sample(self.places, [pair for index, pair in enumerate(self._pairs) if index not in dropped])

    def turned(self):
        """Return the sample with each label exchanged."""
        return Sample(self.places, [(point, not label) for point, label in self._pairs])

    def text(self):
        """Return the lines of the sample, each with a line feed at its end."""
        lines = [f"places {self.places}\n"]
        for point, label in self._pairs:
            words = ["yes" if label else "no"] + [str(entry) for entry in point]
            lines.append(" ".join(words) + "\n")
        return "".join(lines)

    def _checked(self, indexes):
        """Return the indexes as a list; each is that of an example, and occurs once."""
        checked = []
        for thing in indexes:
            # The form comes first: True equals the index 1, and is none.
            if not is_index_below(thing, len(self._pairs)) or thing in checked:
                raise BadIndex(thing)
            checked.append(thing)
        return checked

    def __len__(self):
        return len(self._pairs)

    def __iter__(self):
        return iter(self._pairs)

    def __contains__(self, thing):
        # The form comes first: Python takes 1 and True for equal, the package does not.
        return is_example(thing, self.places) and copied_example(thing) in self._pairs

    def __add__(self, other):
        if not isinstance(other, Sample):
            return NotImplemented
        if self.places != other.places:
            raise UnlikePlaces()
        return Sample(self.places, self._pairs + other._pairs)

    def __eq__(self, other):
        return isinstance(other, Sample) and self.places == other.places and self._pairs == other._pairs

"""Kinds and samples read from their texts."""

from toldenough.errors import BadLine, BadText
from toldenough.forms import LEAST_PLACES, MOST_PLACES
from toldenough.kinds import GREATEST_MOST, Boxes, Flats, Halves, Rising, Turns
from toldenough.samples import Sample

LONGEST_INTEGER = 6


def read_kind(text):
    """Return the kind with this text."""
    words = text.split(" ")
    kind, end = _kind_at(words, 0, None)
    if end < len(words):
        raise BadText(end)
    return kind


def _kind_at(words, at, places):
    """Return the kind whose words begin at the index, and the index behind them.

    The kind must have so many places, where this is not None.
    """
    word = _word_at(words, at)
    if word == "not":
        kind, end = _kind_at(words, at + 1, places)
        return ~kind, end
    if word in ("both", "either", "any"):
        one, middle = _kind_at(words, at + 1, places)
        other, end = _kind_at(words, middle, one.places)
        return _put_together(word, one, other), end
    return _plain_kind_at(words, at, places), at + 2


def _put_together(word, one, other):
    if word == "both":
        return one & other
    if word == "either":
        return one | other
    return one + other


def _plain_kind_at(words, at, places):
    """Return the plain kind of the word at the index and the number behind it."""
    word = words[at]
    if word == "turns" and places in (None, 1):
        return Turns(_number_at(words, at + 1, 0, GREATEST_MOST))
    if word not in ("halves", "boxes", "rising", "flats"):
        raise BadText(at)
    number = _number_at(words, at + 1, places or LEAST_PLACES, places or MOST_PLACES)
    if word == "halves":
        return Halves(number)
    if word == "boxes":
        return Boxes(number)
    if word == "rising":
        return Rising(number)
    return Flats(number)


def _number_at(words, at, least, most):
    """Return the number from least to most that the word at the index is."""
    word = _word_at(words, at)
    for number in range(least, most + 1):
        if word == str(number):
            return number
    raise BadText(at)


def _word_at(words, at):
    if at >= len(words):
        raise BadText(at)
    return words[at]


def read_sample(text):
    """Return the sample with this text."""
    # Behind the last line feed there is nothing, or a line that has none.
    *rows, rest = text.split("\n")
    places = _places_in(rows)
    examples = []
    for number, row in enumerate(rows[1:], start=2):
        words = row.split(" ")
        if not _is_example(words, places):
            raise BadLine(number)
        examples.append(([int(word) for word in words[1:]], words[0] == "yes"))
    if rest != "":
        raise BadLine(len(rows) + 1)
    return Sample(places, examples)


def _places_in(rows):
    """Return the number of places that the first line tells."""
    for places in range(LEAST_PLACES, MOST_PLACES + 1):
        if rows[:1] == [f"places {places}"]:
            return places
    raise BadLine(1)


def _is_example(words, places):
    """Tell whether the words are yes or no, and so many integers."""
    return (words[0] in ("yes", "no") and len(words) == places + 1
            and all([_is_written_integer(word) for word in words[1:]]))


def _is_written_integer(word):
    """Tell whether the word is an integer as str writes it, and not too long."""
    if len(word) > LONGEST_INTEGER or not word.removeprefix("-").isdecimal():
        return False
    return str(int(word)) == word

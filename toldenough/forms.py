"""What forms an object may have: integers, labels, lists, points and examples."""

LEAST_PLACES = 1
MOST_PLACES = 3
LONGEST_WORD = 8


def is_integer(thing):
    """Tell whether the thing is an integer; a truth value is none."""
    return isinstance(thing, int) and not isinstance(thing, bool)


def is_integer_or_none(thing):
    """Tell whether the thing is an integer or None."""
    return thing is None or is_integer(thing)


def is_label(thing):
    """Tell whether the thing is True or False; an integer is no label."""
    return isinstance(thing, bool)


def is_row(thing):
    """Tell whether the thing is a list or a tuple, which may stand for one another."""
    return isinstance(thing, (list, tuple))


def is_row_of(thing, many):
    """Tell whether the thing is a row of so many things."""
    return is_row(thing) and len(thing) == many


def is_form(thing, word, many):
    """Tell whether the thing is a row of so many things, the first of them this word."""
    return is_row_of(thing, many) and thing[0] == word


def is_number_of(thing, table):
    """Tell whether the thing is an integer that is a key of the table."""
    # The form comes first: True equals the key 1, and is none; a list cannot be looked up.
    return is_integer(thing) and thing in table


def is_index_below(thing, many):
    """Tell whether the thing is an index of one of so many things."""
    return is_integer(thing) and 0 <= thing < many


def is_word(thing):
    """Tell whether the thing is a string of one to eight letters a to z."""
    return isinstance(thing, str) and 1 <= len(thing) <= LONGEST_WORD and all(["a" <= sign <= "z" for sign in thing])


def is_number_of_places(thing):
    """Tell whether points may have so many places."""
    return is_integer(thing) and LEAST_PLACES <= thing <= MOST_PLACES


def is_point(thing, places):
    """Tell whether the thing is a point of so many places."""
    return is_row_of(thing, places) and all([is_integer(entry) for entry in thing])


def is_example(thing, places):
    """Tell whether the thing is a pair of a point of so many places and a label."""
    return is_row_of(thing, 2) and is_point(thing[0], places) and is_label(thing[1])


def copied_example(example):
    """Return the example as tuples, so that no later change of it has an effect."""
    point, label = example
    return (tuple(point), label)

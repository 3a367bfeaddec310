"""Objects of the kinds of point 3, for tests that pass any object, and forms of objects."""

from toldenough.errors import NoDeed
from toldenough.kinds import Boxes, Halves, Turns
from toldenough.samples import Sample


def any_objects():
    """Return new objects, none of them an integer."""
    return [
        None,
        True,
        False,
        "",
        "a",
        "1",
        "yes",
        [],
        (),
        {},
        [None],
        [1],
        (0,),
        ["ab", "cd"],
        {0: 1},
        {"a": [1, {}]},
        [[], [{}]],
        Sample(1),
        Sample(1, [((0,), True)]),
        [Sample(2)],
        NoDeed(),
        Halves(1),
        (~Boxes(2), [Turns(0)]),
    ]


def shape(thing):
    """Return the thing with the class of each of its parts, as 1 == True in Python."""
    if isinstance(thing, (list, tuple)):
        return (thing.__class__.__name__, [shape(part) for part in thing])
    return (thing.__class__.__name__, thing)


def as_lists(thing):
    """Return the thing with a list for each tuple in it."""
    if isinstance(thing, (list, tuple)):
        return [as_lists(part) for part in thing]
    return thing


def as_tuples(thing):
    """Return the thing with a tuple for each list in it."""
    if isinstance(thing, (list, tuple)):
        return tuple([as_tuples(part) for part in thing])
    return thing


def mixed(thing, depth=0):
    """Return the thing with a list for each tuple at every other depth."""
    if isinstance(thing, (list, tuple)):
        parts = [mixed(part, depth + 1) for part in thing]
        return parts if depth % 2 else tuple(parts)
    return thing


def changed_at_each_place(thing, others):
    """Return pairs of a path and the thing with one of the others at that path, for each place in it."""
    found = [((), other) for other in others]
    if isinstance(thing, (list, tuple)):
        for at, part in enumerate(thing):
            for path, new in changed_at_each_place(part, others):
                parts = list(thing)
                parts[at] = new
                found.append(((at, *path), parts if isinstance(thing, list) else tuple(parts)))
    return found

"""Objects of the kinds of point 3, for tests that pass any object."""

from toldenough.errors import NoDeed
from toldenough.samples import Sample


def any_objects():
    """Return new objects, none of them an integer."""
    return [
        None,
        True,
        False,
        "",
        "a",
        "1",
        "yes",
        [],
        (),
        {},
        [None],
        [1],
        (0,),
        ["ab", "cd"],
        {0: 1},
        {"a": [1, {}]},
        [[], [{}]],
        Sample(1),
        Sample(1, [((0,), True)]),
        [Sample(2)],
        NoDeed(),
    ]

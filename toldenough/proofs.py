"""Certificates as objects: the numbers in plain ones, and copies."""


def numbers_of(proof):
    """Return the list of the numbers of examples in a plain certificate of any kind, some perhaps more than once."""
    word = proof[0]
    if word == "meet":
        return [number for number, _ in [*proof[1], *proof[2]]]
    if word == "between":
        return [proof[1], *[number for pair in proof[2] for number in pair]]
    if word == "above":
        return [proof[1], proof[2]]
    if word == "span":
        return [proof[1], *[number for number, _ in proof[2]]]
    if word == "turns":
        return list(proof[1])
    if word == "neither":
        return numbers_of(proof[1]) + numbers_of(proof[2])
    if word == "split":
        return [proof[1], *numbers_of(proof[2]), *numbers_of(proof[3])]
    # What is left are "not", "one" and "other", around one certificate.
    return numbers_of(proof[1])


def copied(thing):
    """Return the thing with new lists at every depth."""
    if isinstance(thing, list):
        return [copied(part) for part in thing]
    if isinstance(thing, tuple):
        return tuple([copied(part) for part in thing])
    return thing

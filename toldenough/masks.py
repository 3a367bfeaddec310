"""Parts of a list: ascending tuples of indexes, and masks, integers with a bit for each index."""


def mask_of(numbers):
    """Return the mask with the bits of these numbers."""
    mask = 0
    for number in numbers:
        mask = mask | (1 << number)
    return mask


def mask_below(many):
    """Return the mask of the first so many numbers."""
    return (1 << many) - 1


def numbers_in(mask):
    """Return the ascending list of the numbers whose bits the mask has."""
    return [number for number in range(mask.bit_length()) if mask >> number & 1]


def longer_parts(parts, many):
    """Return the parts with one more index below many behind those of each part, in the order of parts."""
    return [(*part, index) for part in parts for index in range(part[-1] + 1 if part else 0, many)]


def least_parts(many, holds):
    """Return the least parts of so many indexes whose masks hold, in the order of parts.

    A mask must hold if one within it does.
    """
    found = []
    parts = [()]
    while parts:
        found = found + [part for part in parts if holds(mask_of(part))]
        # A part that contains one that holds is not a least one, and neither is a longer one.
        known = [mask_of(part) for part in found]
        parts = [part for part in longer_parts(parts, many) if not _has_one(mask_of(part), known)]
    return found


def _has_one(mask, masks):
    """Tell whether one of the masks lies within the mask."""
    return any([mask & other == other for other in masks])

"""Labelings of points, and how the labels of a point part those that are left: these are masks of their numbers."""

from toldenough.masks import mask_below, mask_of, numbers_in


class Splits:
    """The list of all labelings of some points."""

    def __init__(self, rows):
        self.rows = rows
        self.every = mask_below(len(rows))
        self.yeses = [mask_of([number for number, row in enumerate(rows) if row[index]])
                      for index in range(len(rows[0]))]

    def sides(self, mask, index):
        """Return the masks of the labelings within the mask with no and with yes at the point with the index."""
        return mask & ~self.yeses[index], mask & self.yeses[index]

    def ways(self, mask):
        """Return the triples (index, noes, yeses) of the points at which the labelings of the mask have both labels."""
        found = []
        for index in range(len(self.yeses)):
            noes, yeses = self.sides(mask, index)
            if noes != 0 and yeses != 0:
                found.append((index, noes, yeses))
        return found

    def rows_in(self, mask):
        """Return the ascending list of the labelings of the mask."""
        return [self.rows[number] for number in numbers_in(mask)]

"""Points 9, 10 and 11: the forms of the rules, and what they say."""

import copy
import inspect
import itertools
import unittest
from fractions import Fraction

from objects import as_lists, mixed
from toldenough import rules
from toldenough.rules import says

BIG = 10 ** 15 - 1


class Cases(unittest.TestCase):

    def told(self, rule, point, wanted):
        """Check what the rule says, with tuples and with lists."""
        for form in (lambda thing: thing, as_lists, mixed):
            for other in (point, list(point)):
                with self.subTest(rule=form(rule), point=other):
                    self.assertIs(says(form(rule), other), wanted)


class Interface(unittest.TestCase):

    def test_defined_in_its_file_with_the_listed_names(self):
        self.assertEqual(rules.says.__module__, "toldenough.rules")
        self.assertEqual(list(inspect.signature(says).parameters), ["rule", "point"])
        self.assertIs(says(point=(1,), rule=("half", (1,), 1)), True)

    def test_arguments_are_not_changed(self):
        rule = ["either", ["both", ["half", [1, 1], 0], ["box", [[0, None], [None, 3]]]],
                ["not", ["either", ["rise", [[None, 2]]], ["flat", [[0, 0], [1, 1]]]]]]
        point = [1, 2]
        before = copy.deepcopy((rule, point))
        says(rule, point)
        self.assertEqual((rule, point), before)


class Halves(Cases):

    def test_one_place(self):
        for entry, wanted in ((1, False), (2, True), (3, True)):
            self.told(("half", (1,), 2), (entry,), wanted)
        for entry, wanted in ((-3, True), (-2, True), (-1, False)):
            self.told(("half", (-1,), 2), (entry,), wanted)

    def test_at_the_bound(self):
        self.told(("half", (2, -3, 1), 7), (5, 1, 0), True)
        self.told(("half", (2, -3, 1), 8), (5, 1, 0), False)
        self.told(("half", (2, -3, 1), 6), (5, 1, 0), True)

    def test_no_weight_at_all(self):
        for bound, wanted in ((-1, True), (0, True), (1, False)):
            self.told(("half", (0, 0), bound), (9, -9), wanted)

    def test_long_numbers(self):
        self.told(("half", (BIG, -BIG), 0), (BIG, BIG), True)
        self.told(("half", (BIG, -BIG), BIG), (BIG, BIG - 1), True)
        self.told(("half", (BIG, -BIG), BIG + 1), (BIG, BIG - 1), False)


class Boxes(Cases):

    def test_entries_at_the_bounds(self):
        for entry in range(-1, 6):
            self.told(("box", ((1, 4),)), (entry,), 1 <= entry <= 4)

    def test_none_in_ranges(self):
        for entry in (-BIG, -1, 0, 1, BIG):
            self.told(("box", ((None, None),)), (entry,), True)
            self.told(("box", ((0, None),)), (entry,), entry >= 0)
            self.told(("box", ((None, 0),)), (entry,), entry <= 0)

    def test_each_entry_lies_in_its_range(self):
        rule = ("box", ((0, 2), (None, 1), (3, None)))
        for point, wanted in (((0, 1, 3), True), ((2, -9, 9), True), ((3, 1, 3), False), ((0, 2, 3), False),
                              ((0, 1, 2), False), ((-1, 2, 2), False)):
            self.told(rule, point, wanted)

    def test_empty_ranges(self):
        for entry in range(0, 6):
            self.told(("box", ((4, 2),)), (entry,), False)
        self.told(("box", ((2, 2),)), (2,), True)


class Rising(Cases):

    def test_no_corner_says_no_everywhere(self):
        for point in ((0,), (5, 5), (BIG, BIG, BIG)):
            self.told(("rise", ()), point, False)

    def test_entries_at_the_corner(self):
        for one, other in itertools.product(range(-1, 3), repeat=2):
            self.told(("rise", ((0, 1),)), (one, other), one >= 0 and other >= 1)

    def test_none_in_corners(self):
        self.told(("rise", ((None, None),)), (-BIG, -BIG), True)
        for point, wanted in (((-99, 2), True), ((-99, 3), True), ((99, 1), False)):
            self.told(("rise", ((None, 2),)), point, wanted)

    def test_one_corner_is_enough(self):
        rule = ("rise", ((0, 3), (2, 1), (2, 1)))
        for one, other in itertools.product(range(-1, 5), repeat=2):
            wanted = (one >= 0 and other >= 3) or (one >= 2 and other >= 1)
            self.told(rule, (one, other), wanted)

    def test_corners_are_not_mixed(self):
        self.told(("rise", ((5, 0), (0, 5))), (4, 4), False)


def is_combination(points, point):
    """Tell by rows of fractions whether the point is a sum, of factors with the sum 1, of the points."""
    def rank(rows):
        rows = [[Fraction(entry) for entry in row] for row in rows]
        found = 0
        for column in range(len(rows[0]) if rows else 0):
            pivots = [row for row in rows[found:] if row[column] != 0]
            if not pivots:
                continue
            rows.remove(pivots[0])
            rows.insert(found, pivots[0])
            for at, row in enumerate(rows):
                if at != found:
                    factor = row[column] / pivots[0][column]
                    rows[at] = [entry - factor * less for entry, less in zip(row, pivots[0])]
            found += 1
        return found
    grown = [(1, *other) for other in points]
    return rank(grown) == rank([*grown, (1, *point)])


class Flats(Cases):

    def test_no_point_says_no_everywhere(self):
        for point in ((0,), (0, 0), (1, 2, 3)):
            self.told(("flat", ()), point, False)

    def test_one_point(self):
        self.told(("flat", ((1, 2),)), (1, 2), True)
        for point in ((0, 0), (2, 4), (1, 1), (2, 1), (-1, -2)):
            self.told(("flat", ((1, 2),)), point, False)

    def test_the_sum_of_the_factors_is_1(self):
        self.told(("flat", ((1, 1), (2, 2))), (0, 0), True)
        self.told(("flat", ((1, 0), (0, 1))), (0, 0), False)
        self.told(("flat", ((1, 0), (0, 1))), (-4, 5), True)
        self.told(("flat", ((2,),)), (4,), False)

    def test_rational_factors(self):
        self.told(("flat", ((0, 0), (2, 4))), (1, 2), True)
        self.told(("flat", ((0, 0), (3, 3))), (1, 1), True)
        self.told(("flat", ((0, 0, 0), (2, 0, 0), (0, 3, 0))), (1, 1, 0), True)

    def test_points_of_which_one_is_a_combination_of_others(self):
        line = ("flat", ((0, 0, 0), (1, 1, 1), (3, 3, 3)))
        self.told(line, (-7, -7, -7), True)
        self.told(line, (1, 1, 0), False)
        plane = ("flat", ((0, 0, 1), (2, 0, 1), (1, 0, 1), (0, 5, 1), (2, 5, 1)))
        self.told(plane, (9, -8, 1), True)
        self.told(plane, (9, -8, 2), False)

    def test_the_same_point_twice(self):
        self.told(("flat", ((1, 2), (1, 2))), (1, 2), True)
        self.told(("flat", ((1, 2), (1, 2))), (2, 4), False)
        self.told(("flat", ((1, 2), (1, 2), (2, 2))), (7, 2), True)

    def test_all_points_of_the_places(self):
        self.told(("flat", ((0,), (1,))), (-BIG,), True)
        self.told(("flat", ((0, 0), (1, 0), (0, 1))), (17, -4), True)
        self.told(("flat", ((0, 0, 0), (1, 0, 0), (0, 1, 0), (0, 0, 1))), (5, 6, 7), True)
        self.told(("flat", ((0, 0, 0), (1, 0, 0), (0, 1, 0), (1, 1, 0))), (5, 6, 7), False)

    def test_long_numbers_are_exact(self):
        self.told(("flat", ((0, 0), (BIG, BIG - 1))), (-BIG, 1 - BIG), True)
        self.told(("flat", ((0, 0), (BIG, BIG - 1))), (BIG - 1, BIG - 2), False)
        three = ((BIG, 0, 1), (0, BIG, -1), (1, -BIG, BIG))
        self.told(("flat", three), (BIG + 1, -2 * BIG, BIG + 2), True)
        self.told(("flat", three), (BIG + 1, -2 * BIG, BIG + 1), False)

    def test_small_points_in_all_ways(self):
        grid = list(itertools.product((-1, 0, 2), repeat=2))
        for many in (1, 2, 3):
            for points in itertools.combinations_with_replacement(grid, many):
                for point in grid:
                    self.assertIs(says(("flat", points), point), is_combination(points, point), (points, point))

    def test_small_points_of_three_places(self):
        grid = list(itertools.product((0, 1), (0, 2), (-1, 1)))
        for many in (2, 3, 4):
            for points in itertools.permutations(grid, many):
                for point in ((0, 0, -1), (1, 2, 1), (2, 2, 3), (0, 1, 0)):
                    self.assertIs(says(("flat", points), point), is_combination(points, point), (points, point))


class Turns(Cases):

    def test_no_change(self):
        for first in (True, False):
            for entry in (-BIG, 0, BIG):
                self.told(("turns", first, ()), (entry,), first)

    def test_changes_at_most_the_entry(self):
        for first in (True, False):
            for entry, times in ((-3, 0), (-2, 1), (-1, 1), (0, 2), (4, 2), (5, 3), (6, 4), (7, 4)):
                self.told(("turns", first, (-2, 0, 5, 6)), (entry,), first if times % 2 == 0 else not first)


YES = ("turns", True, ())
NO = ("turns", False, ())


class PutTogether(Cases):

    def test_not(self):
        self.told(("not", YES), (0,), False)
        self.told(("not", NO), (0,), True)
        self.told(("not", ("not", YES)), (0,), True)

    def test_both_and_either(self):
        for one, other in itertools.product((YES, NO), repeat=2):
            self.told(("both", one, other), (3,), one == YES and other == YES)
            self.told(("either", one, other), (3,), one == YES or other == YES)

    def test_first_and_second(self):
        for rule in (YES, NO):
            self.told(("first", rule), (0,), rule == YES)
            self.told(("second", rule), (0,), rule == YES)

    def test_each_plain_rule_in_others(self):
        plain = [("half", (1, 1), 3), ("box", ((0, 2), (None, 1))), ("rise", ((1, None), (0, 2))),
                 ("flat", ((0, 0), (1, 2)))]
        for point in itertools.product(range(-1, 4), repeat=2):
            for one, other in itertools.product(plain, repeat=2):
                left, right = says(one, point), says(other, point)
                self.told(("both", ("not", one), ("first", other)), point, not left and right)
                self.told(("either", ("second", one), ("not", ("both", one, other))), point,
                          left or not (left and right))

    def test_deep_rules(self):
        rule = YES
        for _ in range(60):
            rule = ("not", ("first", rule))
        self.told(rule, (0,), True)
        self.told(("not", rule), (0,), False)


if __name__ == "__main__":
    unittest.main()

"""Points 27, 28: labelings of given points, shattered parts; 33 as far as it speaks of these; of 3 and 6 likewise."""

import copy
import inspect
import itertools
import random
import unittest

import oracle
from objects import any_objects, as_lists, mixed, shape
from toldenough.errors import BadPoint
from toldenough.fitting import cost
from toldenough.kinds import Boxes, Flats, Halves, Rising, Turns
from toldenough.labels import dimension, labelings, shattered
from toldenough.samples import Sample

ALL = (labelings, shattered, dimension)
NO, YES = False, True


class Interface(unittest.TestCase):

    def test_defined_in_their_file_with_the_listed_names(self):
        for function in ALL:
            self.assertEqual(function.__module__, "toldenough.labels")
            self.assertEqual(str(inspect.signature(function)), "(kind, points)")

    def test_arguments_by_name(self):
        self.assertEqual(labelings(points=[(1,)], kind=Rising(1)), [(NO,), (YES,)])
        self.assertEqual(shattered(points=[(1,)], kind=Rising(1)), [(), (0,)])
        self.assertEqual(dimension(points=[(1,)], kind=Rising(1)), 1)

    def test_lists_for_tuples_unchanged_arguments_and_new_lists(self):
        points = [[0, 0], (1, 2), [2, 1]]
        before = copy.deepcopy(points)
        for given in (points, tuple(points), as_lists(points), mixed(points)):
            rows, parts = labelings(Boxes(2), given), shattered(Boxes(2), given)
            self.assertEqual(shape(rows), shape(oracle.labelings(("boxes", 2), [(0, 0), (1, 2), (2, 1)])))
            self.assertEqual(shape(parts), shape([(), (0,), (1,), (2,), (0, 1), (0, 2), (1, 2), (0, 1, 2)]))
            rows.clear()
            parts.clear()
        self.assertEqual(shape(points), shape(before))
        self.assertEqual(len(labelings(Boxes(2), points)), 8)
        self.assertEqual(shape(dimension(Boxes(2), points)), shape(3))


class Examples(unittest.TestCase):

    def test_no_points(self):
        for spec, _, _, _ in oracle.cases(91, 60, 0):
            for points in ((), []):
                self.assertEqual(shape(labelings(oracle.built(spec), points)), shape([()]))
                self.assertEqual(shape(shattered(oracle.built(spec), points)), shape([()]))
                self.assertEqual(shape(dimension(oracle.built(spec), points)), shape(0))

    def test_one_point_has_both_labels(self):
        for spec, places, _, _ in oracle.cases(92, 60, 0):
            points = [(-99,) * places]
            self.assertEqual(shape(labelings(oracle.built(spec), points)), shape([(NO,), (YES,)]))
            self.assertEqual(shape(shattered(oracle.built(spec), points)), shape([(), (0,)]))
            self.assertEqual(dimension(oracle.built(spec), points), 1)

    def test_rising(self):
        self.assertEqual(shape(labelings(Rising(1), [(2,), (0,), (1,)])),
                         shape([(NO, NO, NO), (YES, NO, NO), (YES, NO, YES), (YES, YES, YES)]))
        self.assertEqual(shattered(Rising(1), [(2,), (0,), (1,)]), [(), (0,), (1,), (2,)])
        chain = [(5 - at, at) for at in range(5)]
        self.assertEqual(len(labelings(Rising(2), chain)), 32)
        self.assertEqual(len(shattered(Rising(2), chain)), 32)
        self.assertEqual(dimension(Rising(2), chain), 5)

    def test_halves(self):
        self.assertEqual(labelings(Halves(1), [(0,), (1,), (5,)]),
                         [row for row in itertools.product((NO, YES), repeat=3)
                          if row not in ((NO, YES, NO), (YES, NO, YES))])
        self.assertEqual(dimension(Halves(1), [(0,), (1,), (5,)]), 2)
        square = [(0, 0), (0, 1), (1, 0), (1, 1)]
        self.assertEqual(len(labelings(Halves(2), square)), 14)
        self.assertEqual(dimension(Halves(2), square), 3)
        simplex = [(0, 0, 0), (1, 0, 0), (0, 1, 0), (0, 0, 1)]
        self.assertEqual(shattered(Halves(3), simplex)[-1], (0, 1, 2, 3))
        self.assertEqual(dimension(Halves(3), [*simplex, (1, 1, 1)]), 4)

    def test_boxes_flats_and_turns(self):
        cross = [(0, 1), (1, 0), (0, -1), (-1, 0)]
        self.assertEqual(dimension(Boxes(2), cross), 4)
        self.assertEqual(shattered(Boxes(2), [*cross, (0, 0)])[-1], (0, 1, 2, 3))
        self.assertEqual(dimension(Boxes(2), [*cross, (0, 0)]), 4)
        self.assertEqual(dimension(Boxes(1), [(0,), (1,), (2,)]), 2)
        self.assertEqual(labelings(Flats(1), [(0,), (7,), (3,)]),
                         [(NO, NO, NO), (NO, NO, YES), (NO, YES, NO), (YES, NO, NO), (YES, YES, YES)])
        self.assertEqual(shattered(Flats(1), [(0,), (7,), (3,)]), [(), (0,), (1,), (2,), (0, 1), (0, 2), (1, 2)])
        entries = [(3,), (0,), (4,), (1,), (2,)]
        for most, many, long in ((0, 2, 1), (1, 10, 2), (2, 22, 3), (3, 30, 4), (4, 32, 5), (6, 32, 5)):
            self.assertEqual(len(labelings(Turns(most), entries)), many)
            self.assertEqual(dimension(Turns(most), entries), long)
        self.assertEqual(labelings(Turns(0), entries), [(NO,) * 5, (YES,) * 5])

    def test_put_together(self):
        entries = [(0,), (1,), (2,)]
        self.assertEqual(len(labelings(Halves(1) & Halves(1), entries)), 7)
        self.assertEqual(len(labelings(~(Halves(1) & Halves(1)), entries)), 7)
        self.assertNotIn((YES, NO, YES), labelings(Halves(1) & Halves(1), entries))
        self.assertNotIn((NO, YES, NO), labelings(Halves(1) | Halves(1), entries))
        self.assertEqual(len(labelings((Halves(1) & Halves(1)) + (Halves(1) | Halves(1)), entries)), 8)
        self.assertEqual(dimension((Halves(1) & Halves(1)) + (Halves(1) | Halves(1)), entries), 3)


class AgainstAllCases(unittest.TestCase):

    def check(self, spec, points):
        kind = oracle.built(spec)
        rows, parts = oracle.labelings(spec, points), oracle.shattered(spec, points)
        self.assertEqual(shape(labelings(kind, points)), shape(rows))
        self.assertEqual(shape(shattered(kind, points)), shape(parts))
        self.assertEqual(shape(dimension(kind, points)), shape(max(len(part) for part in parts)))

    def test_each_kind(self):
        for spec, points in oracle.point_cases(93, 300):
            with self.subTest(spec=spec, points=points):
                self.check(spec, points)

    def test_five_points_of_plain_kinds(self):
        chance = random.Random(94)
        for places in (1, 2, 3):
            for spec in oracle.plain_specs(places):
                for reach in (2, 3, 99):
                    points = oracle.random_points(chance, places, 5, reach)
                    with self.subTest(spec=spec, points=points):
                        self.check(spec, points)
                        self.check(("not", spec), points)

    def test_labelings_fit_as_samples(self):
        for spec, points in oracle.point_cases(95, 30):
            kind = oracle.built(spec)
            rows = labelings(kind, points)
            for row in itertools.product((NO, YES), repeat=len(points)):
                sample = Sample(kind.places, list(zip(points, row)))
                self.assertIs(cost(kind, sample) == 0, row in rows)


class Facts(unittest.TestCase):

    def test_shattered_parts(self):
        for spec, points in oracle.point_cases(96, 150):
            kind = oracle.built(spec)
            parts = shattered(kind, points)
            self.assertLessEqual(len(labelings(kind, points)), len(parts))
            self.assertEqual(parts, sorted(parts, key=lambda part: (len(part), part)))
            for part in parts:
                for size in range(len(part)):
                    for less in itertools.combinations(part, size):
                        self.assertIn(less, parts)


class Errors(unittest.TestCase):

    def test_bad_point_keeps_the_very_object(self):
        wrong = [*any_objects(), 0, (1,), (1, 2, 3), (1, True), [False, 0], (1, None), ((1, 2),), {1: 2, 3: 4}]
        for function in ALL:
            for thing in wrong:
                for points in ([thing], [(0, 0), thing], ([0, 0], (1, 1), thing, None, (0, 0)), [thing, thing]):
                    with self.subTest(thing=thing):
                        with self.assertRaises(BadPoint) as caught:
                            function(Halves(2), points)
                        self.assertIs(caught.exception.point, thing)

    def test_points_that_occurred_before(self):
        for function in ALL:
            for points, at in (([(0, 0), (1, 1), (0, 0)], 2), ([[0, 0], (0, 0), "x"], 1), ([(0, 0), [0, 0]], 1),
                               ([(3, 4), (4, 3), (5, 5), [4, 3], [3, 4]], 3)):
                for kind in (Boxes(2), ~Flats(2), Rising(2) & Halves(2)):
                    with self.assertRaises(BadPoint) as caught:
                        function(kind, points)
                    self.assertIs(caught.exception.point, points[at])

    def test_points_of_other_places(self):
        for function in ALL:
            for kind in (Turns(3), Flats(2) + Boxes(2), Halves(3) | Rising(3)):
                for places in {1, 2, 3} - {kind.places}:
                    with self.assertRaises(BadPoint):
                        function(kind, [(0,) * kind.places, (0,) * places])


if __name__ == "__main__":
    unittest.main()

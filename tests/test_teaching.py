"""Points 29, 33: teaching; of 3, 4 and 6 what they say of it."""

import copy
import inspect
import itertools
import random
import unittest

import oracle
from objects import any_objects, mixed, shape
from toldenough.errors import BadPoint, NoLabeling
from toldenough.kinds import Boxes, Flats, Halves, Rising, Turns
from toldenough.labels import labelings
from toldenough.teaching import teaching, teaching_number

NO, YES = False, True
LINE = [(0,), (1,), (2,), (3,), (4,)]


class Interface(unittest.TestCase):

    def test_defined_in_their_file_with_the_listed_names(self):
        self.assertEqual(teaching.__module__, "toldenough.teaching")
        self.assertEqual(teaching_number.__module__, "toldenough.teaching")
        self.assertEqual(str(inspect.signature(teaching)), "(kind, points, labels)")
        self.assertEqual(str(inspect.signature(teaching_number)), "(kind, points)")

    def test_arguments_by_name(self):
        self.assertEqual(teaching(labels=(NO, YES), points=[(1,), (2,)], kind=Rising(1)), (0, 1))
        self.assertEqual(teaching_number(points=[(1,), (2,)], kind=Rising(1)), 2)

    def test_lists_for_tuples_and_unchanged_arguments(self):
        points, labels = [[0], (1,), [2]], [NO, YES, YES]
        before = copy.deepcopy((points, labels))
        for given in (points, tuple(points), mixed(points)):
            for told in (labels, tuple(labels)):
                self.assertEqual(shape(teaching(Rising(1), given, told)), shape((0, 1)))
        self.assertEqual(shape((points, labels)), shape(before))


class Examples(unittest.TestCase):

    def test_no_points_and_one(self):
        for spec, places, _, _ in oracle.cases(101, 40, 0):
            kind, points = oracle.built(spec), [(1,) * places]
            for labels in ((), []):
                self.assertEqual(shape(teaching(kind, [], labels)), shape(()))
            self.assertEqual(shape(teaching_number(kind, ())), shape(0))
            self.assertEqual(shape(teaching(kind, points, (NO,))), shape((0,)))
            self.assertEqual(shape(teaching(kind, points, [YES])), shape((0,)))
            self.assertEqual(shape(teaching_number(kind, points)), shape(1))

    def test_the_first_part_is_returned(self):
        self.assertEqual(teaching(Turns(0), LINE, (NO,) * 5), (0,))
        self.assertEqual(teaching(Rising(1), LINE, (YES,) * 5), (0,))
        self.assertEqual(teaching(Rising(1), LINE, (NO,) * 5), (4,))
        self.assertEqual(teaching(Rising(1), LINE, (NO, NO, NO, YES, YES)), (2, 3))
        self.assertEqual(teaching(Turns(1), LINE, (YES,) * 5), (0, 4))
        self.assertEqual(teaching(Turns(1), LINE, (YES, YES, NO, NO, NO)), (1, 2))
        self.assertEqual(teaching(Halves(1), LINE, (YES, NO, NO, NO, NO)), (0, 1))
        self.assertEqual(teaching(Boxes(1), LINE, (NO,) * 5), (0, 1, 2, 3, 4))
        self.assertEqual(teaching(Boxes(1), LINE, (YES,) * 5), (0, 4))
        self.assertEqual(teaching(Boxes(1), LINE, (NO, NO, YES, NO, NO)), (1, 2, 3))
        self.assertEqual(teaching(Flats(1), LINE, (YES,) * 5), (0, 1))
        self.assertEqual(teaching(Flats(1), LINE, (NO, NO, YES, NO, NO)), (0, 2))
        self.assertEqual(teaching(Flats(1), LINE, (YES, NO, NO, NO, NO)), (0, 1))
        self.assertEqual(teaching(~Flats(1), LINE, (NO, YES, YES, YES, YES)), (0, 1))

    def test_numbers(self):
        for kind, number in ((Turns(0), 1), (Rising(1), 2), (Turns(1), 2), (Boxes(1), 5), (Flats(1), 5),
                             (Turns(4), 5), (Boxes(1) + ~Boxes(1), 5), (Halves(1) & Halves(1), 5)):
            with self.subTest(kind=kind.text()):
                self.assertEqual(shape(teaching_number(kind, LINE)), shape(number))


class AgainstAllCases(unittest.TestCase):

    def test_each_kind(self):
        for spec, points in oracle.point_cases(102, 250):
            kind, rows = oracle.built(spec), oracle.labelings(spec, points)
            wanted = [oracle.teaching(rows, row) for row in rows]
            with self.subTest(spec=spec, points=points):
                self.assertEqual(shape([teaching(kind, points, row) for row in rows]), shape(wanted))
                self.assertEqual(shape(teaching_number(kind, points)), shape(max(len(part) for part in wanted)))

    def test_points_that_have_all_labelings(self):
        points = [(5 - at, at) for at in range(5)]
        for row in itertools.product((NO, YES), repeat=5):
            self.assertEqual(teaching(Rising(2), points, row), (0, 1, 2, 3, 4))
        self.assertEqual(teaching_number(Rising(2), points), 5)


class Errors(unittest.TestCase):

    def test_bad_point_ahead_of_no_labeling(self):
        wrong = [*any_objects(), 0, (1,), (1, 2, 3), (1, True), [False, 0], (1, None), ((1, 2),), {1: 2, 3: 4}]
        for thing in wrong:
            for labels in ((NO, NO), None, (1, 0)):
                with self.subTest(thing=thing):
                    with self.assertRaises(BadPoint) as caught:
                        teaching(Halves(2), [(0, 0), thing, (0, 0)], labels)
                    self.assertIs(caught.exception.point, thing)
            with self.assertRaises(BadPoint) as caught:
                teaching_number(Halves(2), [(0, 0), thing])
            self.assertIs(caught.exception.point, thing)
        again = [0, 1]
        for function in (teaching_number, lambda *things: teaching(*things, None)):
            with self.assertRaises(BadPoint) as caught:
                function(Flats(2), [(0, 1), (1, 0), again, None])
            self.assertIs(caught.exception.point, again)

    def test_no_labeling_keeps_the_very_object(self):
        points = [(0,), (1,), (2,)]
        wrong = [*any_objects(), 0, (NO, YES), (NO, YES, YES, YES), (NO, 1, 1), (0, 1, 1), [0, 0, 0], (NO, NO, None),
                 (YES, NO, NO), [YES, NO, YES], (NO, YES, NO), ((NO, YES, YES),), (NO, NO, "yes"), (NO, [], YES),
                 {0: NO, 1: NO, 2: NO}, "001", [[NO], [NO], [NO]], (NO, Rising(1), Halves(1))]
        for thing in wrong:
            with self.subTest(thing=thing):
                with self.assertRaises(NoLabeling) as caught:
                    teaching(Rising(1), points, thing)
                self.assertIs(caught.exception.labels, thing)
        self.assertEqual(points, [(0,), (1,), (2,)])
        for thing in (None, [NO], (1,), 0, "", {}):
            with self.assertRaises(NoLabeling):
                teaching(Rising(1), [], thing)

    def test_labels_that_no_rule_gives(self):
        for spec, points in oracle.point_cases(103, 40):
            kind = oracle.built(spec)
            rows = labelings(kind, points)
            for row in itertools.product((NO, YES), repeat=len(points)):
                if row not in rows:
                    with self.assertRaises(NoLabeling) as caught:
                        teaching(kind, points, list(row))
                    self.assertEqual(shape(caught.exception.labels), shape(list(row)))

    def test_integers_are_no_labels(self):
        chance = random.Random(104)
        for spec, points in oracle.point_cases(105, 40):
            if points:
                kind = oracle.built(spec)
                row = list(chance.choice(labelings(kind, points)))
                at = chance.randrange(len(row))
                row[at] = int(row[at])
                with self.assertRaises(NoLabeling) as caught:
                    teaching(kind, points, row)
                self.assertIs(caught.exception.labels, row)


if __name__ == "__main__":
    unittest.main()

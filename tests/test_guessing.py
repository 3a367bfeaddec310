"""Points 31, 32, 33: guessing, and somebody who guesses; of 3 and 4 what they say of these."""

import copy
import inspect
import itertools
import random
import unittest

import oracle
from objects import any_objects, as_lists, shape
from toldenough.errors import BadIndex, BadLabel, BadPoint, NoLabeling
from toldenough.guessing import Guesser, mistake_tree, mistakes
from toldenough.kinds import Boxes, Flats, Halves, Rising, Turns
from toldenough.labels import dimension, labelings

NO, YES = False, True
LINE = [(0,), (1,), (2,), (3,), (4,)]


class Interface(unittest.TestCase):

    def test_defined_in_their_file_with_the_listed_names(self):
        for function in (mistakes, mistake_tree):
            self.assertEqual(function.__module__, "toldenough.guessing")
            self.assertEqual(str(inspect.signature(function)), "(kind, points)")
        self.assertEqual(Guesser.__module__, "toldenough.guessing")
        found = {name: list(inspect.signature(vars(Guesser)[name]).parameters)
                 for name in ("__init__", "guess", "tell", "wrong", "left")}
        self.assertEqual(found, {"__init__": ["self", "kind", "points"], "guess": ["self", "index"],
                                 "tell": ["self", "index", "label"], "wrong": ["self"], "left": ["self"]})

    def test_arguments_by_name(self):
        self.assertEqual(mistakes(points=[(1,)], kind=Rising(1)), 1)
        self.assertEqual(mistake_tree(points=[(1,)], kind=Rising(1)), (0, (), ()))
        guesser = Guesser(points=[(1,), (2,)], kind=Rising(1))
        self.assertIs(type(guesser.guess(index=1)), bool)
        self.assertIsNone(guesser.tell(label=YES, index=0))
        self.assertEqual(guesser.left(), [(YES, YES)])

    def test_lists_for_tuples_and_unchanged_arguments(self):
        points = [[0], (1,), [2]]
        before = copy.deepcopy(points)
        for given in (points, tuple(points), as_lists(points)):
            self.assertEqual(shape(mistakes(Rising(1), given)), shape(2))
            self.assertEqual(mistake_tree(Rising(1), given), mistake_tree(Rising(1), [(0,), (1,), (2,)]))
            self.assertEqual(Guesser(Rising(1), given).left(), labelings(Rising(1), points))
        self.assertEqual(shape(points), shape(before))


class Mistakes(unittest.TestCase):

    def check_tree(self, tree, depth, left):
        """Check that this is a mistake tree of the depth, all of whose ways agree with a labeling that is left."""
        self.assertTrue(left)
        self.assertIsInstance(tree, tuple)
        if depth == 0:
            self.assertEqual(tree, ())
            return
        index, no_tree, yes_tree = tree
        self.assertIs(type(index), int)
        noes, yeses = oracle.sides(left, index)
        self.check_tree(no_tree, depth - 1, noes)
        self.check_tree(yes_tree, depth - 1, yeses)

    def check(self, spec, points):
        kind, rows = oracle.built(spec), tuple(oracle.labelings(spec, points))
        wanted = oracle.mistakes(rows)
        self.assertEqual(shape(mistakes(kind, points)), shape(wanted))
        self.check_tree(mistake_tree(kind, points), wanted, rows)
        return wanted

    def test_numbers(self):
        for spec, number in ((("turns", 0), 1), (("rising", 1), 2), (("turns", 1), 3), (("flats", 1), 2),
                             (("not", ("flats", 1)), 2), (("boxes", 1), 3), (("turns", 6), 5)):
            with self.subTest(spec=spec):
                self.assertEqual(self.check(spec, LINE), number)

    def test_no_points_and_one(self):
        for spec, places, _, _ in oracle.cases(121, 40, 0):
            kind = oracle.built(spec)
            self.assertEqual(shape(mistakes(kind, ())), shape(0))
            self.assertEqual(shape(mistake_tree(kind, [])), shape(()))
            self.assertEqual(shape(mistakes(kind, [(5,) * places])), shape(1))
            self.assertEqual(shape(mistake_tree(kind, [(5,) * places])), shape((0, (), ())))

    def test_each_kind(self):
        for spec, points in oracle.point_cases(122, 300):
            with self.subTest(spec=spec, points=points):
                self.check(spec, points)

    def test_five_points_of_plain_kinds(self):
        chance = random.Random(123)
        for places in (1, 2, 3):
            for spec in oracle.plain_specs(places):
                points = oracle.random_points(chance, places, 5, 3)
                with self.subTest(spec=spec, points=points):
                    self.check(spec, points)

    def test_facts(self):
        for spec, points in oracle.point_cases(124, 120):
            kind = oracle.built(spec)
            self.assertGreaterEqual(mistakes(kind, points), dimension(kind, points))
            self.assertLessEqual(2 ** mistakes(kind, points), len(labelings(kind, points)))


class Guessers(unittest.TestCase):

    def told(self, guesser, index, label, rows):
        """Tell the label, check what changes by it, and return the rows that are left."""
        left = [row for row in rows if row[index] is label]
        guess, wrong = guesser.guess(index), guesser.wrong()
        self.assertIs(type(guess), bool)
        self.assertIs(guesser.guess(index), guess)
        self.assertEqual(guesser.left(), rows)
        self.assertIsNone(guesser.tell(index, label))
        self.assertEqual(shape(guesser.wrong()), shape(wrong + (guess is not label)))
        self.assertEqual(shape(guesser.left()), shape(left))
        return left

    def test_all_orders_and_labels_of_up_to_three_points(self):
        for spec, points in oracle.point_cases(125, 150):
            points = points[:3]
            kind, rows = oracle.built(spec), oracle.labelings(spec, points)
            most = mistakes(kind, points)
            for order in itertools.permutations(range(len(points))):
                for row in rows:
                    guesser, left = Guesser(kind, points), rows
                    for index in order:
                        left = self.told(guesser, index, row[index], left)
                    self.assertLessEqual(guesser.wrong(), most)
                    self.assertEqual(guesser.left(), [row])

    def test_any_order_also_again(self):
        chance = random.Random(126)
        for spec, points in oracle.point_cases(127, 200):
            kind, rows = oracle.built(spec), oracle.labelings(spec, points)
            most = mistakes(kind, points)
            for row in chance.sample(rows, min(3, len(rows))):
                guesser, left = Guesser(kind, points), rows
                for _ in range(12 if points else 0):
                    index = chance.randrange(len(points))
                    left = self.told(guesser, index, row[index], left)
                    self.assertLessEqual(guesser.wrong(), most)

    def test_whatever_is_told_against_the_guesses(self):
        chance = random.Random(128)
        for spec, points in oracle.point_cases(129, 200):
            kind, left = oracle.built(spec), oracle.labelings(spec, points)
            guesser = Guesser(kind, points)
            for _ in range(15 if points else 0):
                index = chance.randrange(len(points))
                label = not guesser.guess(index)
                if not [row for row in left if row[index] is label]:
                    label = not label
                left = self.told(guesser, index, label, left)
            self.assertLessEqual(guesser.wrong(), mistakes(kind, points))

    def test_down_a_mistake_tree(self):
        for spec, points in oracle.point_cases(130, 200):
            kind, rows = oracle.built(spec), oracle.labelings(spec, points)
            guesser, tree, left = Guesser(kind, points), mistake_tree(kind, points), rows
            while tree:
                index = tree[0]
                label = not guesser.guess(index)
                left = self.told(guesser, index, label, left)
                tree = tree[1 + label]
            self.assertEqual(guesser.wrong(), mistakes(kind, points))
            for index in range(len(points)):
                label = guesser.guess(index)
                left = self.told(guesser, index, label, left)
            self.assertEqual(guesser.wrong(), mistakes(kind, points))

    def test_labels_told_again(self):
        guesser = Guesser(Rising(1), LINE)
        guesser.tell(2, YES)
        wrong = guesser.wrong()
        for _ in range(3):
            for index in (2, 3, 4):
                self.assertIs(guesser.guess(index), YES)
                guesser.tell(index, YES)
        self.assertEqual(guesser.wrong(), wrong)
        self.assertEqual(guesser.left(), [(NO, NO, YES, YES, YES), (NO, YES, YES, YES, YES), (YES,) * 5])

    def test_no_points(self):
        guesser = Guesser(Boxes(3), [])
        self.assertEqual(shape(guesser.left()), shape([()]))
        self.assertEqual(shape(guesser.wrong()), shape(0))
        for thing in (0, -1, None):
            with self.assertRaises(BadIndex):
                guesser.guess(thing)

    def test_later_changes_have_no_effect(self):
        points = [[0], [1]]
        guesser = Guesser(Rising(1), points)
        points[0][0] = 9
        points.clear()
        guesser.left().clear()
        self.assertEqual(guesser.left(), [(NO, NO), (NO, YES), (YES, YES)])
        other = Guesser(Rising(1), [(0,), (1,)])
        other.tell(0, YES)
        self.assertEqual(guesser.left(), [(NO, NO), (NO, YES), (YES, YES)])


class Errors(unittest.TestCase):

    def test_bad_point_keeps_the_very_object(self):
        wrong = [*any_objects(), 0, (1,), (1, 2, 3), (1, True), [False, 0], (1, None), ((1, 2),), {1: 2, 3: 4}]
        for function in (mistakes, mistake_tree, Guesser):
            for thing in wrong:
                for points in ([thing], ([0, 0], (1, 1), thing, None, (0, 0))):
                    with self.subTest(thing=thing):
                        with self.assertRaises(BadPoint) as caught:
                            function(Halves(2) | Flats(2), points)
                        self.assertIs(caught.exception.point, thing)
            again = [0, 1]
            with self.assertRaises(BadPoint) as caught:
                function(Flats(2), [(0, 1), (1, 0), again, None])
            self.assertIs(caught.exception.point, again)

    def setUp(self):
        self.guesser = Guesser(Rising(1), [(0,), (1,), (2,)])
        self.guesser.tell(1, YES)
        self.before = self.seen()

    def seen(self):
        return shape([self.guesser.left(), self.guesser.wrong(), [self.guesser.guess(index) for index in range(3)]])

    def test_bad_index_ahead_of_all_else(self):
        for thing in [*any_objects(), -1, 3, 10 ** 15, (1,), "1"]:
            with self.subTest(thing=thing):
                with self.assertRaises(BadIndex) as caught:
                    self.guesser.guess(thing)
                self.assertIs(caught.exception.index, thing)
                for label in (YES, NO, 1, None):
                    with self.assertRaises(BadIndex) as caught:
                        self.guesser.tell(thing, label)
                    self.assertIs(caught.exception.index, thing)
        self.assertEqual(self.seen(), self.before)

    def test_bad_label_ahead_of_no_labeling(self):
        for thing in [*[thing for thing in any_objects() if not isinstance(thing, bool)], 0, 1, -1, (True,), "True"]:
            for index in range(3):
                with self.subTest(thing=thing):
                    with self.assertRaises(BadLabel) as caught:
                        self.guesser.tell(index, thing)
                    self.assertIs(caught.exception.label, thing)
        self.assertEqual(self.seen(), self.before)

    def test_labels_that_leave_none(self):
        for index in (1, 2):
            with self.assertRaises(NoLabeling) as caught:
                self.guesser.tell(index, NO)
            self.assertEqual(shape(caught.exception.labels), shape((index, NO)))
            self.assertEqual(self.seen(), self.before)
        self.guesser.tell(0, NO)
        with self.assertRaises(NoLabeling) as caught:
            self.guesser.tell(label=YES, index=0)
        self.assertEqual(shape(caught.exception.labels), shape((0, YES)))
        self.assertEqual(self.guesser.left(), [(NO, YES, YES)])

    def test_labels_that_leave_none_at_any_time(self):
        for spec, points in oracle.point_cases(131, 60):
            kind, rows = oracle.built(spec), oracle.labelings(spec, points)
            guesser = Guesser(kind, points)
            for index, label in enumerate(rows[-1]):
                guesser.tell(index, label)
                with self.assertRaises(NoLabeling) as caught:
                    guesser.tell(index, not label)
                self.assertEqual(shape(caught.exception.labels), shape((index, not label)))
            self.assertEqual(guesser.left(), rows[-1:])


if __name__ == "__main__":
    unittest.main()

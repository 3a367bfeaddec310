"""Points 30, 33: asking; of 3 and 4 what they say of it."""

import copy
import inspect
import random
import unittest

import oracle
from objects import any_objects, as_lists, shape
from toldenough.asking import ask_tree, asks
from toldenough.errors import BadPoint, BadPrices
from toldenough.kinds import Boxes, Flats, Halves, Rising, Turns
from toldenough.labels import labelings
from toldenough.teaching import teaching_number

NO, YES = False, True
LINE = [(0,), (1,), (2,), (3,), (4,)]


class Trees(unittest.TestCase):

    def cost_of(self, tree, left, prices):
        """Check the form of the ask tree for the labelings that are left, and return its cost."""
        self.assertIsInstance(tree, tuple)
        if len(left) == 1:
            self.assertEqual(shape(tree), shape(left[0]))
            return 0
        index, no_tree, yes_tree = tree
        self.assertIs(type(index), int)
        noes, yeses = oracle.sides(left, index)
        self.assertTrue(noes and yeses, "all labelings that are left have the same label")
        return prices[index] + max(self.cost_of(no_tree, noes, prices), self.cost_of(yes_tree, yeses, prices))

    def check(self, spec, points, prices=None):
        kind, rows = oracle.built(spec), tuple(oracle.labelings(spec, points))
        charged = (1,) * len(points) if prices is None else tuple(prices)
        wanted = oracle.asks(rows, charged)
        self.assertEqual(shape(asks(kind, points, prices=prices)), shape(wanted))
        self.assertEqual(self.cost_of(ask_tree(kind, points, prices=prices), rows, charged), wanted)
        return wanted


class Interface(Trees):

    def test_defined_in_their_file_with_the_listed_names(self):
        for function in (asks, ask_tree):
            self.assertEqual(function.__module__, "toldenough.asking")
            self.assertEqual(str(inspect.signature(function)), "(kind, points, *, prices=None)")
            with self.assertRaises(TypeError):
                function(Rising(1), [(1,)], [1])

    def test_arguments_by_name(self):
        self.assertEqual(asks(prices=[7], points=[(1,)], kind=Rising(1)), 7)
        self.assertEqual(ask_tree(prices=[7], points=[(1,)], kind=Rising(1)), (0, (NO,), (YES,)))

    def test_lists_for_tuples_and_unchanged_arguments(self):
        points, prices = [[0], (1,), [2]], [3, 2, 5]
        before = copy.deepcopy((points, prices))
        for given in (points, tuple(points), as_lists(points)):
            for charged in (prices, tuple(prices)):
                self.assertEqual(shape(asks(Rising(1), given, prices=charged)), shape(7))
                self.cost_of(ask_tree(Rising(1), given, prices=charged), oracle.labelings(("rising", 1),
                             [(0,), (1,), (2,)]), charged)
        self.assertEqual(shape((points, prices)), shape(before))


class Examples(Trees):

    def test_no_points_and_one(self):
        for spec, places, _, _ in oracle.cases(111, 40, 0):
            kind = oracle.built(spec)
            for prices in (None, (), []):
                self.assertEqual(shape(asks(kind, [], prices=prices)), shape(0))
                self.assertEqual(shape(ask_tree(kind, (), prices=prices)), shape(()))
            self.assertEqual(shape(ask_tree(kind, [(0,) * places])), shape((0, (NO,), (YES,))))
            self.assertEqual(asks(kind, [(0,) * places]), 1)
            self.assertEqual(asks(kind, [(0,) * places], prices=[99]), 99)

    def test_numbers(self):
        for spec, number in ((("rising", 1), 3), (("turns", 0), 1), (("turns", 1), 4), (("boxes", 1), 5),
                             (("flats", 1), 5), (("turns", 6), 5), (("not", ("rising", 1)), 3)):
            with self.subTest(spec=spec):
                self.assertEqual(self.check(spec, LINE), number)

    def test_prices_choose_the_points(self):
        self.assertEqual(asks(Rising(1), LINE[:3]), 2)
        self.assertEqual(ask_tree(Rising(1), LINE[:3])[0], 1)
        self.assertEqual(self.check(("rising", 1), LINE[:3], [1, 99, 1]), 100)
        self.assertEqual(self.check(("rising", 1), LINE[:3], [99, 1, 1]), 100)
        self.assertEqual(self.check(("turns", 0), LINE, [9, 8, 7, 8, 9]), 7)
        self.assertEqual(ask_tree(Turns(0), LINE, prices=[9, 8, 7, 8, 9]), (2, (NO,) * 5, (YES,) * 5))
        self.assertEqual(self.check(("flats", 1), LINE, [99] * 5), 495)
        self.assertEqual(self.check(("turns", 6), LINE, [1, 2, 4, 8, 16]), 31)


class AgainstAllCases(Trees):

    def test_each_kind(self):
        chance = random.Random(112)
        for spec, points in oracle.point_cases(113, 250):
            prices = [chance.choice((1, 1, 2, 5, 50, 98, 99)) for _ in points]
            with self.subTest(spec=spec, points=points, prices=prices):
                self.check(spec, points)
                self.check(spec, points, prices)
                self.check(spec, points, [1] * len(points))

    def test_five_points_of_plain_kinds(self):
        chance = random.Random(114)
        for places in (1, 2, 3):
            for spec in oracle.plain_specs(places):
                points = oracle.random_points(chance, places, 5, 3)
                with self.subTest(spec=spec, points=points):
                    self.check(spec, points, [chance.randint(1, 9) for _ in points])
                    self.check(spec, points)


class Facts(Trees):

    def test_labelings_and_teaching(self):
        for spec, points in oracle.point_cases(115, 100):
            kind = oracle.built(spec)
            self.assertLessEqual(len(labelings(kind, points)), 2 ** asks(kind, points))
            self.assertLessEqual(teaching_number(kind, points), asks(kind, points))


class Errors(Trees):

    def test_bad_point_ahead_of_bad_prices(self):
        wrong = [*any_objects(), 0, (1,), (1, 2, 3), (1, True), [False, 0], (1, None), ((1, 2),), {1: 2, 3: 4}]
        for function in (asks, ask_tree):
            for thing in wrong:
                for prices in (None, [1, 1], "prices", [0, 1, 1]):
                    with self.subTest(thing=thing):
                        with self.assertRaises(BadPoint) as caught:
                            function(Halves(2), [(0, 0), thing, (0, 0)], prices=prices)
                        self.assertIs(caught.exception.point, thing)
            again = [0, 1]
            with self.assertRaises(BadPoint) as caught:
                function(Flats(2), [(0, 1), (1, 0), again, None], prices=[1])
            self.assertIs(caught.exception.point, again)

    def test_bad_prices_keeps_the_very_object(self):
        points = [(0, 0), (1, 0)]
        wrong = [thing for thing in any_objects() if thing is not None]
        wrong += [0, 1, (1,), [1, 1, 1], [1, 0], (100, 1), [True, 1], (1, False), [1, "1"], (1, None), [-1, 5],
                  [[1], [1]], ((1, 1),), {0: 1, 1: 1}, [1, Halves(1)], "11", [10 ** 15, 1]]
        for function in (asks, ask_tree):
            for thing in wrong:
                for kind in (Boxes(2), Rising(2) & ~Flats(2)):
                    with self.subTest(thing=thing):
                        with self.assertRaises(BadPrices) as caught:
                            function(kind, points, prices=thing)
                        self.assertIs(caught.exception.prices, thing)
            for thing in ([1], (99,), 0, False, "", {}, [[]]):
                with self.assertRaises(BadPrices) as caught:
                    function(Turns(1), [], prices=thing)
                self.assertIs(caught.exception.prices, thing)
        self.assertEqual(points, [(0, 0), (1, 0)])


if __name__ == "__main__":
    unittest.main()

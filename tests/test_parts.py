"""Points 19 to 22: conflicts, repairs, reasons, idle examples, cores; of 6, 42 and 43 what they say of these."""

import inspect
import itertools
import random
import unittest

import oracle
from objects import any_objects, shape
from toldenough import parts
from toldenough.errors import BadPoint, Unfit, UnlikePlaces
from toldenough.fitting import cost, settled
from toldenough.kinds import Boxes, Flats, Halves, Rising, Turns
from toldenough.parts import conflicts, cores, idle, reasons, repairs
from toldenough.samples import Sample

WITHOUT_POINT = (conflicts, repairs, idle, cores)


def is_list_of_parts(found):
    """Tell whether there are ascending tuples of integers in a list, in the order of parts."""
    return (isinstance(found, list) and found == sorted(found, key=lambda part: (len(part), part))
            and all(shape(part) == shape(tuple(sorted(set(part)))) for part in found)
            and all(type(index) is int for part in found for index in part))


class Interface(unittest.TestCase):

    def test_defined_in_their_file_with_the_listed_names(self):
        for function in WITHOUT_POINT:
            self.assertEqual(function.__module__, "toldenough.parts")
            self.assertEqual(str(inspect.signature(function)), "(kind, sample)")
        self.assertEqual(parts.reasons.__module__, "toldenough.parts")
        self.assertEqual(str(inspect.signature(reasons)), "(kind, sample, point)")

    def test_arguments_by_name(self):
        kind, sample = Rising(1), Sample(1, [((1,), True), ((4,), True)])
        for function, wanted in zip(WITHOUT_POINT, ([], [()], [1], [(0,)])):
            self.assertEqual(shape(function(sample=sample, kind=kind)), shape(wanted))
        self.assertEqual(reasons(point=(5,), sample=sample, kind=kind), [(0,), (1,)])


class Examples42And43(unittest.TestCase):

    def test_halves(self):
        sample = Sample(1, [((1,), True), ((4,), False), ((0,), False)])
        self.assertEqual(shape(conflicts(Halves(1), sample)), shape([(0, 1, 2)]))
        self.assertEqual(shape(repairs(Halves(1), sample)), shape([(0,), (1,), (2,)]))
        self.assertEqual(cores(Halves(1), sample), [(0, 1, 2)])
        self.assertEqual(idle(Halves(1), sample), [])

    def test_boxes(self):
        sample = Sample(2, [((0, 0), True), ((2, 2), True), ((5, 1), False)])
        self.assertEqual(shape(reasons(Boxes(2), sample, (1, 2))), shape([(0, 1)]))
        self.assertEqual(reasons(Boxes(2), sample, (6, 1)), [(0, 2), (1, 2)])
        self.assertEqual(reasons(Boxes(2), sample, (4, 9)), [])


class AgainstAllCases(unittest.TestCase):

    def check(self, spec, places, pairs):
        kind, sample = oracle.built(spec), Sample(places, pairs)
        every = oracle.parts(len(pairs))
        failing = [part for part in every if not oracle.fits(spec, oracle.taken(pairs, part))]
        self.assertEqual(shape(conflicts(kind, sample)), shape(oracle.least(failing)))
        mending = [part for part in every if oracle.fits(
            spec, [pair for index, pair in enumerate(pairs) if index not in part])]
        self.assertEqual(shape(repairs(kind, sample)), shape(oracle.least(mending)))
        telling = [part for part in every if oracle.same(spec, pairs, part)]
        self.assertEqual(shape(cores(kind, sample)), shape(oracle.least(telling)))
        whole = range(len(pairs))
        self.assertEqual(shape(idle(kind, sample)), shape([
            index for index in whole if tuple(other for other in whole if other != index) in telling]))
        for found in (conflicts(kind, sample), repairs(kind, sample), cores(kind, sample)):
            self.assertTrue(is_list_of_parts(found), found)
        self.assertEqual(sample.examples(), pairs)

    def test_each_kind(self):
        for spec, places, pairs, _ in oracle.cases(41, 300, 6):
            with self.subTest(spec=spec, pairs=pairs):
                self.check(spec, places, pairs)

    def test_points_that_occur_again(self):
        chance = random.Random(42)
        for _ in range(150):
            places = chance.randint(1, 3)
            points = [oracle.random_point(chance, places, 1) for _ in range(3)]
            pairs = [(chance.choice(points), chance.random() < 0.6) for _ in range(chance.randint(2, 6))]
            spec = oracle.random_spec(chance, places, chance.choice((1, 2, 3)))
            with self.subTest(spec=spec, pairs=pairs):
                self.check(spec, places, pairs)

    def test_small_lines(self):
        for spec in [*oracle.plain_specs(1), ("both", ("halves", 1), ("halves", 1)), ("not", ("boxes", 1)),
                     ("either", ("boxes", 1), ("not", ("turns", 0))), ("any", ("rising", 1), ("not", ("rising", 1)))]:
            for labels in itertools.product((True, False), repeat=5):
                self.check(spec, 1, [((entry,), label) for entry, label in zip((2, 0, 3, 1, 1), labels)])

    def test_reasons(self):
        for at, (spec, places, pairs, reach) in enumerate(oracle.cases(43, 300, 6)):
            kind, sample = oracle.built(spec), Sample(places, pairs)
            point = oracle.random_point(random.Random(at), places, reach)
            word = oracle.settled(spec, pairs, point)
            with self.subTest(spec=spec, pairs=pairs, point=point):
                if word == "none":
                    with self.assertRaises(Unfit):
                        reasons(kind, sample, point)
                    continue
                telling = [part for part in oracle.parts(len(pairs))
                           if oracle.settled(spec, oracle.taken(pairs, part), point) == word]
                wanted = [] if word == "open" else oracle.least(telling)
                self.assertEqual(shape(reasons(kind, sample, point)), shape(wanted))
                self.assertEqual(shape(reasons(kind, sample, list(point))), shape(wanted))
                self.assertTrue(is_list_of_parts(wanted))


class Edges(unittest.TestCase):

    def test_empty_samples(self):
        for spec, places, _, _ in oracle.cases(44, 60, 0):
            kind, sample = oracle.built(spec), Sample(places)
            self.assertEqual(shape(conflicts(kind, sample)), shape([]))
            self.assertEqual(shape(repairs(kind, sample)), shape([()]))
            self.assertEqual(shape(reasons(kind, sample, (0,) * places)), shape([]))
            self.assertEqual(shape(idle(kind, sample)), shape([]))
            self.assertEqual(shape(cores(kind, sample)), shape([()]))

    def test_a_sample_that_fits(self):
        sample = Sample(1, [((0,), True), ((3,), True), ((5,), False)])
        for kind in (Boxes(1), Turns(1), ~Rising(1), Halves(1) & Boxes(1)):
            self.assertEqual(conflicts(kind, sample), [])
            self.assertEqual(shape(repairs(kind, sample)), shape([()]))

    def test_parts_of_unlike_lengths_in_their_order(self):
        sample = Sample(1, [((0,), True), ((2,), False), ((4,), True), ((4,), False), ((6,), False), ((4,), True)])
        self.assertEqual(conflicts(Boxes(1), sample), [(2, 3), (3, 5), (0, 1, 2), (0, 1, 5)])
        self.assertEqual(repairs(Boxes(1), sample), [(0, 3), (1, 3), (2, 5)])
        self.assertEqual(cores(Boxes(1), sample), conflicts(Boxes(1), sample))

    def test_equal_examples(self):
        sample = Sample(2, [((1, 1), True)] * 3)
        for kind in (Halves(2), Boxes(2), Rising(2), Flats(2), ~Flats(2), Boxes(2) | Rising(2)):
            self.assertEqual(conflicts(kind, sample), [])
            self.assertEqual(idle(kind, sample), [0, 1, 2])
            self.assertEqual(cores(kind, sample), [(0,), (1,), (2,)])
            self.assertEqual(reasons(kind, sample, (1, 1)), [(0,), (1,), (2,)])
            unlike = sample + Sample(2, [((1, 1), False)])
            self.assertEqual(conflicts(kind, unlike), [(0, 3), (1, 3), (2, 3)])
            self.assertEqual(repairs(kind, unlike), [(3,), (0, 1, 2)])
            self.assertEqual(cores(kind, unlike), [(0, 3), (1, 3), (2, 3)])
            self.assertEqual(idle(kind, unlike), [0, 1, 2])

    def test_what_a_sample_that_does_not_fit_can_do_without(self):
        sample = Sample(1, [((0,), True), ((1,), False), ((2,), True), ((9,), False)])
        self.assertEqual(idle(Boxes(1), sample), [3])
        self.assertEqual(idle(Turns(0), sample), [0, 1, 2, 3])
        self.assertEqual(cores(Turns(0), sample), [(0, 1), (0, 3), (1, 2), (2, 3)])

    def test_flat_points_of_which_one_is_a_combination_of_others(self):
        line = Sample(3, [((0, 0, 0), True), ((1, 1, 1), True), ((3, 3, 3), True)])
        self.assertEqual(cores(Flats(3), line), [(0, 1), (0, 2), (1, 2)])
        self.assertEqual(idle(Flats(3), line), [0, 1, 2])
        self.assertEqual(reasons(Flats(3), line, (-7, -7, -7)), [(0, 1), (0, 2), (1, 2)])
        self.assertEqual(reasons(Flats(3), line, (3, 3, 3)), [(2,), (0, 1)])
        self.assertEqual(reasons(Flats(3), line, (3, 3, 4)), [])
        wrong = line + Sample(3, [((5, 5, 5), False)])
        self.assertEqual(conflicts(Flats(3), wrong), [(0, 1, 3), (0, 2, 3), (1, 2, 3)])
        self.assertEqual(repairs(Flats(3), wrong), [(3,), (0, 1), (0, 2), (1, 2)])

    def test_turns_of_none_and_of_six(self):
        line = Sample(1, [((entry,), entry % 2 == 0) for entry in range(6)])
        self.assertEqual(conflicts(Turns(6), line), [])
        self.assertEqual(repairs(Turns(0), line), [(0, 2, 4), (1, 3, 5)])
        self.assertEqual(conflicts(Turns(4), line), [(0, 1, 2, 3, 4, 5)])
        same = Sample(1, [((entry,), True) for entry in range(3)])
        self.assertEqual(cores(Turns(0), same), [(0,), (1,), (2,)])
        self.assertEqual(reasons(Turns(0), same, (99,)), [(0,), (1,), (2,)])
        self.assertEqual(cores(Turns(6), same), [(0, 1, 2)])
        self.assertEqual(reasons(Turns(6), same, (99,)), [])

    def test_points_with_long_entries(self):
        big = 10 ** 15 - 1
        sample = Sample(2, [((0, 0), True), ((1, 1), True), ((99, 99), True), ((0, -99), False)])
        self.assertEqual(reasons(Flats(2), sample, (big, big)), [(0, 1), (0, 2), (1, 2)])
        self.assertEqual(reasons(Flats(2), sample, (big, 1 - big)), [(0, 1, 3), (0, 2, 3), (1, 2, 3)])
        self.assertEqual(reasons(Rising(2), sample, (big, 1)), [(0,), (1,)])
        self.assertEqual(reasons(Rising(2), sample, (-big, -big)), [(3,)])
        self.assertEqual(reasons(Halves(2), sample, (-big, -big)), [])

    def test_as_much_as_may_be(self):
        chance = random.Random(45)
        for places in (1, 2, 3):
            for _ in range(8):
                spec = oracle.random_spec(chance, places, 3, nots=0.6)
                kind, sample = oracle.built(spec), Sample(places, oracle.random_pairs(chance, places, 6, 1))
                if conflicts(kind, sample):
                    self.assertEqual(cores(kind, sample), conflicts(kind, sample))
                    self.assertGreater(len(repairs(kind, sample)[0]), 0)
                else:
                    self.assertEqual(repairs(kind, sample), [()])
                    self.assertGreater(len(cores(kind, sample)), 0)


class Facts(unittest.TestCase):

    def test_conflicts_and_repairs_are_the_hitting_sets_of_one_another(self):
        for spec, places, pairs, _ in oracle.cases(46, 150, 6):
            kind, sample = oracle.built(spec), Sample(places, pairs)
            ours, theirs = conflicts(kind, sample), repairs(kind, sample)
            every = oracle.parts(len(pairs))
            def hitting(found):
                return oracle.least([part for part in every if all(set(part) & set(other) for other in found)])
            self.assertEqual(hitting(ours), theirs)
            if ours:
                self.assertEqual(hitting(theirs), ours)
                self.assertEqual(cores(kind, sample), ours)
            self.assertEqual(cost(kind, sample), len(theirs[0]))

    def test_one_core_for_halves_and_rising(self):
        chance = random.Random(47)
        for _ in range(150):
            places = chance.randint(1, 3)
            pairs = list(dict.fromkeys(oracle.random_pairs(chance, places, 6, 3)))
            sample = Sample(places, pairs)
            for kind in (Halves(places), Rising(places)):
                if not conflicts(kind, sample):
                    left = set(range(len(pairs))) - set(idle(kind, sample))
                    self.assertEqual(cores(kind, sample), [tuple(sorted(left))])

    def test_a_core_settles_what_the_sample_does(self):
        for at, (spec, places, pairs, reach) in enumerate(oracle.cases(48, 60, 5)):
            kind, sample = oracle.built(spec), Sample(places, pairs)
            point = oracle.random_point(random.Random(at), places, reach)
            for part in cores(kind, sample):
                self.assertEqual(settled(kind, sample.part(part), point), settled(kind, sample, point))


class Errors(unittest.TestCase):

    def test_unlike_places_ahead_of_all_else(self):
        unfit = Sample(2, [((0, 0), True), ((0, 0), False)])
        for kind, sample in ((Halves(1), unfit), (Turns(0), unfit), (~Boxes(3), unfit), (Boxes(1) & Flats(1), unfit),
                             (Rising(2), Sample(1)), (Flats(2) + Boxes(2), Sample(3))):
            for function in WITHOUT_POINT:
                with self.assertRaises(UnlikePlaces):
                    function(kind, sample)
            for point in ((0, 0), None, (0,), True):
                with self.assertRaises(UnlikePlaces):
                    reasons(kind, sample, point)

    def test_bad_point_ahead_of_unfit(self):
        unfit = Sample(2, [((0, 0), True), ((0, 0), False)])
        wrong = [*any_objects(), 0, (1,), (1, 2, 3), (1, True), [False, 0], (1, None), ((1, 2),), {1: 2, 3: 4}]
        for sample in (unfit, Sample(2)):
            for thing in wrong:
                with self.subTest(thing=thing):
                    with self.assertRaises(BadPoint) as caught:
                        reasons(Halves(2), sample, thing)
                    self.assertIs(caught.exception.point, thing)
        self.assertEqual(unfit.examples(), [((0, 0), True), ((0, 0), False)])

    def test_unfit(self):
        unfit = Sample(2, [((0, 0), True), ((0, 0), False)])
        for kind in (Halves(2), Boxes(2), Rising(2), Flats(2), ~Halves(2), Halves(2) & Flats(2), Boxes(2) | Boxes(2)):
            for point in ((0, 0), (5, 5), [5, 5]):
                with self.assertRaises(Unfit):
                    reasons(kind, unfit, point)

    def test_returned_lists_are_new_ones(self):
        kind, sample = Turns(0), Sample(1, [((0,), True), ((1,), False)])
        for function in WITHOUT_POINT:
            found = function(kind, sample)
            wanted = list(found)
            found.clear()
            self.assertEqual(function(kind, sample), wanted)
        point = [1]
        reasons(Turns(0), sample.part([0]), point).clear()
        self.assertEqual(reasons(Turns(0), sample.part([0]), point), [(0,)])
        self.assertEqual(point, [1])


if __name__ == "__main__":
    unittest.main()

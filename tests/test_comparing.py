"""Points 23, 24: samples compared; of 3, 4, 6 and 14 what they say of these."""

import inspect
import random
import unittest

import oracle
from objects import as_lists, shape
from toldenough import comparing
from toldenough.comparing import alike, parted, says_all
from toldenough.errors import UnlikePlaces
from toldenough.fitting import settled
from toldenough.kinds import Boxes, Flats, Halves, Rising, Turns
from toldenough.parts import cores
from toldenough.rules import says
from toldenough.samples import Sample

ALL = (says_all, parted, alike)


def mistakes(rule, pairs):
    return sum(says(rule, point) is not label for point, label in pairs)


def compared(seed, count, most=6):
    """Return tuples (kind as a tuple, places, examples, others), the others often a part of these, or like them."""
    chance = random.Random(seed)
    found = []
    for spec, places, pairs, reach in oracle.cases(seed, count, most):
        way = chance.random()
        if way < 0.4:
            others = oracle.random_pairs(chance, places, chance.randint(0, most), reach)
        elif way < 0.7:
            others = [pair for pair in pairs if chance.random() < 0.6]
        else:
            others = [(point, label != (chance.random() < 0.15)) for point, label in pairs]
            chance.shuffle(others)
        found.append((spec, places, pairs, others))
    return found


class Interface(unittest.TestCase):

    def test_defined_in_their_file_with_the_listed_names(self):
        for function in ALL:
            self.assertEqual(function.__module__, "toldenough.comparing")
            self.assertIs(getattr(comparing, function.__name__), function)
            self.assertEqual(str(inspect.signature(function)), "(kind, one, other)")

    def test_arguments_by_name(self):
        one, other = Sample(1, [((4,), True)]), Sample(1, [((9,), True)])
        self.assertIs(says_all(other=other, one=one, kind=Rising(1)), True)
        self.assertIsNone(parted(other=other, one=one, kind=Rising(1)))
        self.assertIs(alike(other=other, one=one, kind=Rising(1)), False)


class AgainstAllCases(unittest.TestCase):

    def check(self, spec, places, pairs, others):
        kind, one, other = oracle.built(spec), Sample(places, pairs), Sample(places, others)
        index = oracle.first_parting(spec, pairs, others)
        self.assertIs(says_all(kind, one, other), index is None)
        self.assertIs(alike(kind, one, other), index is None and oracle.says_all(spec, others, pairs))
        found = parted(kind, one, other)
        if index is None:
            self.assertIsNone(found)
        else:
            self.assertEqual((type(found), len(found)), (tuple, 2))
            rule, at = found
            self.assertEqual(shape(at), shape(index))
            self.check_rule(kind, rule, pairs, others[index])
        self.assertEqual(one.examples(), pairs)
        self.assertEqual(other.examples(), others)
        self.assertEqual(kind, oracle.built(spec))

    def check_rule(self, kind, rule, pairs, example):
        self.assertIsInstance(rule, tuple)
        self.assertIs(kind.has(rule), True)
        self.assertIs(kind.has(as_lists(rule)), True)
        self.assertEqual(mistakes(rule, pairs), 0)
        self.assertEqual(mistakes(rule, [example]), 1)

    def test_each_kind(self):
        both = [0, 0]
        for spec, places, pairs, others in compared(61, 500):
            with self.subTest(spec=spec, pairs=pairs, others=others):
                self.check(spec, places, pairs, others)
                both[oracle.says_all(spec, pairs, others)] += 1
        self.assertGreater(min(both), 100)

    def test_samples_that_fit(self):
        chance = random.Random(62)
        for _ in range(200):
            places = chance.randint(1, 3)
            spec = oracle.random_spec(chance, places, chance.choice((1, 2, 3)))
            pairs = oracle.likely_pairs(chance, places, 4, 3)
            if oracle.fits(spec, pairs):
                others = [(oracle.random_point(chance, places, 3), True) for _ in range(3)]
                others = [(point, oracle.settled(spec, pairs, point) != "no") for point, _ in others]
                with self.subTest(spec=spec, pairs=pairs, others=others):
                    self.check(spec, places, pairs, others)
                    self.check(spec, places, pairs, pairs[1:] + others[:1])

    def test_plain_kinds_of_one_to_three_places(self):
        chance = random.Random(63)
        for places in (1, 2, 3):
            for spec in oracle.plain_specs(places):
                for _ in range(25):
                    pairs = oracle.random_pairs(chance, places, chance.randint(0, 4), 1)
                    others = oracle.random_pairs(chance, places, chance.randint(0, 6), 1)
                    with self.subTest(spec=spec, pairs=pairs, others=others):
                        self.check(spec, places, pairs, others)


class Edges(unittest.TestCase):

    def test_empty_samples(self):
        for spec, places, pairs, _ in oracle.cases(64, 60, 4):
            kind, empty, sample = oracle.built(spec), Sample(places), Sample(places, pairs)
            self.assertIs(says_all(kind, empty, empty), True)
            self.assertIsNone(parted(kind, empty, empty))
            self.assertIs(alike(kind, empty, empty), True)
            self.assertIs(says_all(kind, sample, empty), True)
            # Of each point some rule says yes, and some rule no.
            self.assertIs(says_all(kind, empty, sample), not pairs)
            self.assertIs(alike(kind, empty, sample), not pairs)
            if pairs:
                rule, index = parted(kind, empty, sample)
                self.assertEqual((mistakes(rule, pairs[:1]), index), (1, 0))

    def test_samples_that_do_not_fit_say_all_of_every_sample(self):
        for spec, places, pairs, others in compared(65, 60):
            kind, point = oracle.built(spec), (1,) * places
            unfit, other = Sample(places, [(point, True), (point, False)]), Sample(places, others)
            self.assertIs(says_all(kind, unfit, other), True)
            self.assertIsNone(parted(kind, unfit, other))
            self.assertIs(alike(kind, unfit, unfit.turned()), True)
            self.assertIs(alike(kind, unfit, other), not oracle.fits(spec, others))
            self.assertIs(alike(kind, other, unfit), not oracle.fits(spec, others))
            self.assertIs(says_all(kind, other, unfit), not oracle.fits(spec, others))

    def test_equal_examples_and_another_order(self):
        for spec, places, pairs, _ in oracle.cases(66, 40, 3):
            kind, sample = oracle.built(spec), Sample(places, pairs)
            self.assertIs(alike(kind, sample, sample + sample), True)
            self.assertIs(alike(kind, Sample(places, pairs[::-1]), sample), True)

    def test_the_first_index_is_returned(self):
        one = Sample(1, [((0,), True), ((5,), False)])
        other = Sample(1, [((0,), True), ((-1,), True), ((3,), True), ((3,), False), ((9,), True)])
        for kind, index in ((Halves(1), 2), (Boxes(1), 1), (Flats(1), 1), (Turns(1), 2), (Turns(2), 1),
                            (~Boxes(1), 2), (Halves(1) & Halves(1), 1)):
            with self.subTest(kind=kind.text()):
                self.assertEqual(parted(kind, one, other)[1], index)
        for kind in (Turns(0), Rising(1)):
            self.assertIsNone(parted(kind, one, other))
        self.assertEqual(parted(Rising(1), Sample(1, [((0,), True)]), other)[1], 1)

    def test_one_way_only(self):
        less, more = Sample(2, [((0, 0), True)]), Sample(2, [((0, 0), True), ((2, 2), True)])
        for kind in (Halves(2), Boxes(2), Flats(2), Boxes(2) | Flats(2), Halves(2) + Boxes(2)):
            self.assertIs(says_all(kind, more, less), True)
            self.assertIs(says_all(kind, less, more), False)
            self.assertIs(alike(kind, less, more), False)
            self.assertIs(alike(kind, more, less), False)
            self.assertEqual(parted(kind, less, more)[1], 1)
        self.assertIs(alike(Rising(2), less, more), True)

    def test_what_is_returned_is_new_each_time(self):
        kind, one, other = Rising(1), Sample(1, [((0,), False)]), Sample(1, [((9,), False)])
        first = parted(kind, one, other)
        self.assertEqual(first, parted(kind, one, other))
        self.assertEqual(says(first[0], (0,)), False)

    def test_as_much_as_may_be(self):
        chance = random.Random(67)
        for places in (1, 2, 3):
            for _ in range(10):
                kind = oracle.built(oracle.random_spec(chance, places, 3, nots=0.6))
                one, other = [Sample(places, oracle.random_pairs(chance, places, 6, 99)) for _ in range(2)]
                found = parted(kind, one, other)
                self.assertIs(says_all(kind, one, other), found is None)
                if found is not None:
                    self.check_parting(kind, one, other, found)

    def check_parting(self, kind, one, other, found):
        rule, index = found
        self.assertEqual(mistakes(rule, one.examples()), 0)
        self.assertEqual(mistakes(rule, other.part([index]).examples()), 1)
        self.assertIs(says_all(kind, one, other.part(range(index))), True)


class Facts(unittest.TestCase):

    def test_a_sample_that_fits_says_what_it_settles(self):
        for at, (spec, places, pairs, reach) in enumerate(oracle.cases(68, 200, 5)):
            if oracle.fits(spec, pairs):
                kind, sample = oracle.built(spec), Sample(places, pairs)
                point = oracle.random_point(random.Random(at), places, reach)
                word = settled(kind, sample, point)
                self.assertIs(says_all(kind, sample, Sample(places, [(point, True)])), word == "yes")
                self.assertIs(says_all(kind, sample, Sample(places, [(point, False)])), word == "no")

    def test_alike_if_each_says_all_of_the_other(self):
        for spec, places, pairs, others in compared(69, 120, 5):
            kind, one, other = oracle.built(spec), Sample(places, pairs), Sample(places, others)
            self.assertIs(alike(kind, one, other), says_all(kind, one, other) and says_all(kind, other, one))
            self.assertIs(alike(kind, one, other), alike(kind, other, one))

    def test_cores_are_alike(self):
        for spec, places, pairs, _ in oracle.cases(70, 60, 5):
            kind, sample = oracle.built(spec), Sample(places, pairs)
            for part in cores(kind, sample):
                self.assertIs(alike(kind, sample.part(part), sample), True)


class Errors(unittest.TestCase):

    def test_unlike_places(self):
        one, two, three = [Sample(places, [((0,) * places, True)]) for places in (1, 2, 3)]
        wrong = [(Halves(1), one, two), (Halves(1), two, one), (Halves(2), one, one), (Turns(3), two, two),
                 (~Boxes(3), three, two), (Flats(2) & Rising(2), three, two), (Flats(2) | Boxes(2), two, Sample(1)),
                 (Rising(3) + Boxes(3), Sample(2), three), (Halves(3), one, two)]
        for function in ALL:
            for things in wrong:
                with self.assertRaises(UnlikePlaces):
                    function(*things)
        self.assertEqual(two.examples(), [((0, 0), True)])

    def test_unlike_places_of_samples_that_do_not_fit(self):
        unfit = Sample(1, [((0,), True), ((0,), False)])
        for function in ALL:
            with self.assertRaises(UnlikePlaces):
                function(Turns(0), unfit, Sample(2, [((0, 0), True)]))
            with self.assertRaises(UnlikePlaces):
                function(Turns(0), Sample(2), unfit)


if __name__ == "__main__":
    unittest.main()

"""Points 7, 8 and, of 41, the text of a sample; of point 3 what it says of these."""

import copy
import inspect
import unittest

from objects import any_objects, shape
from toldenough.errors import BadExample, BadIndex, BadPlaces, UnlikePlaces
from toldenough.samples import Sample

PAIRS = [((0, 0), True), ((2, 2), True), ((5, 1), False), ((0, 0), True), ((0, 0), False)]


def three():
    return Sample(1, [((1,), True), ((4,), False), ((0,), False)])


class Interface(unittest.TestCase):

    def test_the_methods_stand_in_the_class_itself(self):
        for name in ["examples", "part", "without", "turned", "text",
                     "__len__", "__contains__", "__iter__", "__add__", "__eq__"]:
            with self.subTest(name=name):
                self.assertIn(name, vars(Sample))
        self.assertEqual(Sample.__module__, "toldenough.samples")

    def test_parameters_have_the_listed_names(self):
        found = {name: list(inspect.signature(vars(Sample)[name]).parameters)
                 for name in ["__init__", "examples", "part", "without", "turned", "text"]}
        self.assertEqual(found, {"__init__": ["self", "places", "examples"], "examples": ["self"],
                                 "part": ["self", "indexes"], "without": ["self", "indexes"],
                                 "turned": ["self"], "text": ["self"]})

    def test_arguments_are_passed_by_name(self):
        sample = Sample(examples=PAIRS, places=2)
        self.assertEqual(sample, Sample(2, PAIRS))
        self.assertEqual(sample.part(indexes=[0]), Sample(2, PAIRS[:1]))
        self.assertEqual(sample.without(indexes=[0]), Sample(2, PAIRS[1:]))


class Making(unittest.TestCase):

    def test_places_and_examples(self):
        sample = Sample(2, PAIRS)
        self.assertEqual(shape(sample.places), shape(2))
        self.assertEqual(shape(sample.examples()), shape(PAIRS))
        self.assertEqual(shape([example for example in sample]), shape(PAIRS))
        self.assertEqual(shape(len(sample)), shape(5))

    def test_empty_samples_of_each_number_of_places(self):
        for places in (1, 2, 3):
            for sample in (Sample(places), Sample(places, ()), Sample(places, [])):
                with self.subTest(places=places):
                    self.assertEqual(shape(sample.places), shape(places))
                    self.assertEqual(shape(sample.examples()), shape([]))
                    self.assertEqual(list(sample), [])
                    self.assertEqual(len(sample), 0)
                    self.assertEqual(sample, Sample(places))

    def test_lists_and_tuples_stand_for_one_another(self):
        rows = ([[1, 2], True], ([3, 4], False), [(5, 6), True])
        wanted = [((1, 2), True), ((3, 4), False), ((5, 6), True)]
        for given in (rows, list(rows)):
            sample = Sample(2, given)
            self.assertEqual(shape(sample.examples()), shape(wanted))
            self.assertEqual(shape([example for example in sample]), shape(wanted))

    def test_entries_at_the_bounds_and_beyond_them(self):
        for entry in (-99, 99, -100, 100, -(10 ** 15) + 1, 10 ** 15 - 1):
            with self.subTest(entry=entry):
                pairs = [((entry, -entry, 0), False)]
                self.assertEqual(Sample(3, pairs).examples(), pairs)

    def test_more_examples_than_the_limit(self):
        pairs = [((number,), number % 2 == 0) for number in range(12)]
        self.assertEqual(Sample(1, pairs).examples(), pairs)

    def test_later_changes_to_the_argument_have_no_effect(self):
        point = [1, 2]
        example = [point, True]
        given = [example]
        sample = Sample(2, given)
        point[0] = 7
        example[1] = False
        given.append(((3, 3), True))
        self.assertEqual(sample.examples(), [((1, 2), True)])

    def test_the_argument_is_not_changed(self):
        given = [[[1, 2], True], ([3, 4], False)]
        before = copy.deepcopy(given)
        Sample(2, given)
        self.assertEqual(shape(given), shape(before))

    def test_returned_lists_are_new_ones(self):
        sample = Sample(2, PAIRS)
        sample.examples().clear()
        self.assertEqual(sample.examples(), PAIRS)
        self.assertIsNot(sample.examples(), sample.examples())

    def test_what_was_returned_may_be_passed_on(self):
        sample = Sample(2, PAIRS)
        self.assertEqual(Sample(sample.places, sample.examples()), sample)
        self.assertEqual(Sample(sample.places, list(sample)), sample)

    def test_two_iterations_at_once(self):
        sample = Sample(2, PAIRS)
        self.assertEqual([(one, two) for one in sample for two in sample],
                         [(one, two) for one in PAIRS for two in PAIRS])


class WrongArguments(unittest.TestCase):

    def test_bad_places_keeps_the_very_object(self):
        for thing in [*any_objects(), 0, 4, -1, -2, 10 ** 9]:
            for examples in ((), [((1,), True)], 5, ["no example"]):
                with self.subTest(thing=thing, examples=examples):
                    with self.assertRaises(BadPlaces) as caught:
                        Sample(thing, examples)
                    self.assertIs(caught.exception.places, thing)

    def test_what_is_no_list_gives_the_index_0(self):
        for thing in [*any_objects(), 0, 5]:
            if isinstance(thing, (list, tuple)):
                continue
            with self.subTest(thing=thing):
                with self.assertRaises(BadExample) as caught:
                    Sample(1, thing)
                self.assertEqual(shape(caught.exception.index), shape(0))

    def test_no_example_gives_the_first_index(self):
        good = ((1, 2), True)
        wrong = [*any_objects(), 7,
                 ((1,), True), ((1, 2, 3), True), ((), True), (((1, 2),), True),
                 ((1, 2), 1), ((1, 2), 0), ((1, 2), None), ((1, 2), "yes"), ((1, 2), [True]),
                 ((1, True), True), ((False, 2), True), ((1, None), True), ((1, "2"), True),
                 ((1, [2]), True), ((1, Sample(2)), True), ("ab", True), ({1: 2, 3: 4}, True),
                 (None, True), (5, True), (True, (1, 2)), ((1, 2),), ((1, 2), True, True), (1, 2)]
        for thing in wrong:
            for count in (0, 1, 3):
                with self.subTest(thing=thing, count=count):
                    with self.assertRaises(BadExample) as caught:
                        Sample(2, [good] * count + [thing, good, None])
                    self.assertEqual(shape(caught.exception.index), shape(count))

    def test_a_sample_is_no_list(self):
        with self.assertRaises(BadExample) as caught:
            Sample(2, Sample(2, PAIRS))
        self.assertEqual(caught.exception.index, 0)


class Members(unittest.TestCase):

    def test_examples_are_in_the_sample(self):
        sample = Sample(2, PAIRS)
        for example in PAIRS:
            self.assertIs(example in sample, True)
        for thing in ([(2, 2), True], ([2, 2], True), [[2, 2], True]):
            self.assertIs(thing in sample, True)

    def test_other_objects_are_not(self):
        sample = Sample(2, [((0, 1), True), ((1, 0), False)])
        things = [*any_objects(), 0, 1, ((0, 1), False), ((1, 0), True), ((7, 7), True),
                  ((0, 1), 1), ((1, 0), 0), ((0, True), True), ((False, 1), True), ((True, False), False),
                  ((0, 1),), (0, 1), ((0, 1), True, True), ((0, 1, 0), True), ((0,), True),
                  (Sample(2), True), ((0, 1), [True]), sample, [sample, True], ({0: 0, 1: 1}, True)]
        for thing in things:
            with self.subTest(thing=thing):
                self.assertIs(thing in sample, False)
                self.assertIs(thing not in sample, True)

    def test_nothing_is_in_an_empty_sample(self):
        for thing in [*any_objects(), 0, ((0, 0), True)]:
            self.assertIs(thing in Sample(2), False)


class Parts(unittest.TestCase):

    def test_part_keeps_the_order_of_the_sample(self):
        sample = Sample(2, PAIRS)
        for indexes in ([2, 0], (0, 2), [0, 2], (2, 0)):
            self.assertEqual(sample.part(indexes).examples(), [PAIRS[0], PAIRS[2]])
            self.assertEqual(sample.without(indexes).examples(), [PAIRS[1], PAIRS[3], PAIRS[4]])

    def test_all_parts(self):
        sample = Sample(2, PAIRS)
        for mask in range(2 ** len(PAIRS)):
            inside = [index for index in range(len(PAIRS)) if mask >> index & 1]
            outside = [index for index in range(len(PAIRS)) if not mask >> index & 1]
            with self.subTest(inside=inside):
                self.assertEqual(shape(sample.part(inside).examples()), shape([PAIRS[index] for index in inside]))
                self.assertEqual(sample.without(inside), sample.part(outside))
                self.assertEqual(sample.part(inside[::-1]), sample.part(inside))

    def test_no_indexes_and_all_of_them(self):
        sample = Sample(2, PAIRS)
        for none in ([], ()):
            self.assertEqual(sample.part(none), Sample(2))
            self.assertEqual(sample.without(none), sample)
        every = [4, 3, 2, 1, 0]
        self.assertEqual(sample.part(every), sample)
        self.assertEqual(sample.without(every), Sample(2))
        self.assertEqual(Sample(3).part([]), Sample(3))
        self.assertEqual(Sample(3).without([]), Sample(3))

    def test_first_thing_that_is_no_index(self):
        for thing in [*any_objects(), -1, 5, 6, 10 ** 20, -5]:
            for ahead in ([], [0], [4, 1]):
                for method in (Sample(2, PAIRS).part, Sample(2, PAIRS).without):
                    with self.subTest(thing=thing, ahead=ahead):
                        with self.assertRaises(BadIndex) as caught:
                            method([*ahead, thing, None, 99])
                        self.assertIs(caught.exception.index, thing)

    def test_index_that_occurred_before(self):
        for method in (Sample(2, PAIRS).part, Sample(2, PAIRS).without):
            for indexes, wrong in (([0, 0], 0), ((3, 1, 3, 9), 3), ([1, 2, 1, 2], 1), ([1, True, 1], True),
                                   ([0, False, 0], False), ([2, -1, 2], -1)):
                with self.subTest(indexes=indexes):
                    with self.assertRaises(BadIndex) as caught:
                        method(indexes)
                    self.assertEqual(shape(caught.exception.index), shape(wrong))

    def test_equal_examples_have_indexes_of_their_own(self):
        sample = Sample(1, [((1,), True)] * 3)
        self.assertEqual(len(sample.part([0, 2])), 2)
        self.assertEqual(len(sample.without([0, 2])), 1)

    def test_nothing_changes(self):
        sample = Sample(2, PAIRS)
        indexes = [2, 0]
        sample.part(indexes)
        sample.without(indexes)
        sample.turned()
        sample.text()
        for method in (sample.part, sample.without):
            with self.assertRaises(BadIndex):
                method([0, 9])
        self.assertEqual(indexes, [2, 0])
        self.assertEqual(sample.examples(), PAIRS)
        self.assertEqual(sample.places, 2)


class TurnedAndSums(unittest.TestCase):

    def test_turned(self):
        self.assertEqual(shape(Sample(2, PAIRS).turned().examples()),
                         shape([(point, not label) for point, label in PAIRS]))
        self.assertEqual(Sample(2, PAIRS).turned().turned(), Sample(2, PAIRS))
        self.assertEqual(Sample(3).turned(), Sample(3))
        self.assertNotEqual(Sample(2, PAIRS).turned(), Sample(2, PAIRS))

    def test_sum(self):
        one, other = Sample(2, PAIRS[:2]), Sample(2, PAIRS[1:])
        both = one + other
        self.assertIsInstance(both, Sample)
        self.assertEqual(shape(both.examples()), shape(PAIRS[:2] + PAIRS[1:]))
        self.assertEqual((other + one).examples(), PAIRS[1:] + PAIRS[:2])
        self.assertEqual(one + Sample(2), one)
        self.assertEqual(Sample(2) + one, one)
        self.assertEqual(one.examples(), PAIRS[:2])
        self.assertEqual(other.examples(), PAIRS[1:])

    def test_unlike_places(self):
        for one in (1, 2, 3):
            for other in (1, 2, 3):
                if one != other:
                    with self.subTest(one=one, other=other):
                        with self.assertRaises(UnlikePlaces):
                            Sample(one) + Sample(other)

    def test_nothing_changes_after_unlike_places(self):
        one, other = Sample(2, PAIRS), three()
        with self.assertRaises(UnlikePlaces):
            one + other
        self.assertEqual(one.examples(), PAIRS)
        self.assertEqual(other, three())


class Equality(unittest.TestCase):

    def same(self, one, other, wanted):
        self.assertIs(one == other, wanted)
        self.assertIs(one != other, not wanted)
        self.assertIs(other == one, wanted)
        self.assertIs(other != one, not wanted)

    def test_equal_samples(self):
        self.same(Sample(2, PAIRS), Sample(2, tuple([[list(point), label] for point, label in PAIRS])), True)
        self.same(Sample(1), Sample(1), True)

    def test_unlike_samples(self):
        sample = Sample(2, PAIRS)
        self.same(sample, Sample(2, PAIRS[::-1]), False)
        self.same(sample, Sample(2, PAIRS[:-1]), False)
        self.same(sample, Sample(2, PAIRS + PAIRS[:1]), False)
        self.same(sample, sample.turned(), False)
        self.same(Sample(1), Sample(2), False)
        self.same(Sample(1, [((0,), True)]), Sample(1, [((1,), True)]), False)
        self.same(Sample(1, [((0,), True)] * 2), Sample(1, [((0,), True)]), False)

    def test_a_sample_equals_nothing_else(self):
        sample = Sample(2, PAIRS)
        for thing in [*any_objects(), 0, 2, PAIRS, tuple(PAIRS), (2, PAIRS), sample.text(), [sample], {"a": sample}]:
            with self.subTest(thing=thing):
                self.same(sample, thing, False)
        self.same(Sample(1), [], False)
        self.same(Sample(1), (), False)


class Texts(unittest.TestCase):

    def test_lines(self):
        self.assertEqual(Sample(2, PAIRS).text(),
                         "places 2\nyes 0 0\nyes 2 2\nno 5 1\nyes 0 0\nno 0 0\n")

    def test_negative_and_long_entries(self):
        sample = Sample(3, [((-99, 0, 99), False), ((-1, 123456, -10), True)])
        self.assertEqual(sample.text(), "places 3\nno -99 0 99\nyes -1 123456 -10\n")

    def test_empty_samples(self):
        for places in (1, 2, 3):
            self.assertEqual(Sample(places).text(), f"places {places}\n")

    def test_one_place(self):
        self.assertEqual(three().text(), "places 1\nyes 1\nno 4\nno 0\n")


if __name__ == "__main__":
    unittest.main()

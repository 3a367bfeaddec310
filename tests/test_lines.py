"""Points 25, 26: what is settled along a line; of 3, 4, 14, 42 and 43 what they say of this."""

import inspect
import random
import unittest

import oracle
from objects import any_objects, as_lists, shape
from toldenough.errors import BadLies, BadPoint, BadStep, UnlikePlaces
from toldenough.fitting import settled
from toldenough.kinds import Boxes, Flats, Halves, Rising, Turns
from toldenough.lines import line
from toldenough.samples import Sample

LONG = 10 ** 15 - 1
WORDS = ("yes", "no", "open", "none")


def at(point, step, t):
    return tuple(start + t * by for start, by in zip(point, step))


def word_at(stretches, t):
    """Return the word of the only stretch in which the integer lies."""
    word, = [word for first, last, word in stretches
             if (first is None or first <= t) and (last is None or t <= last)]
    return word


def random_line(chance, places, pairs, reach):
    """Return a point and a step, often through points of the examples, some steps 0 or below 0."""
    point = oracle.random_point(chance, places, reach)
    if pairs and chance.random() < 0.4:
        point = chance.choice(pairs)[0]
    step = tuple(chance.choice((-2, -1, 0, 0, 1, 1, 3)) for _ in range(places))
    if pairs and chance.random() < 0.3:
        step = tuple(one - other for one, other in zip(chance.choice(pairs)[0], point))
    return point, step if any(step) else (1,) * places


class Lines(unittest.TestCase):

    def check(self, kind, sample, point, step, lies=0, others=()):
        """Check the form of the line, and its words at the ends, beside them, far out, and at others."""
        stretches = line(kind, sample, point, step, lies=lies)
        self.check_form(stretches)
        ends = [end for first, last, _ in stretches for end in (first, last) if end is not None]
        near = [end + by for end in ends for by in (-1, 0, 1)]
        within = [(first + last) // 2 for first, last, _ in stretches if first is not None and last is not None]
        for t in {0, *near, *within, *others, *[far for k in (2, 9, 20, 40) for far in (10 ** k, -10 ** k)]}:
            word = settled(kind, sample, at(point, step, t), lies=lies)
            self.assertEqual(word_at(stretches, t), word, (t, stretches))
        return stretches

    def check_form(self, stretches):
        self.assertIsInstance(stretches, list)
        self.assertIsNone(stretches[0][0])
        self.assertIsNone(stretches[-1][1])
        for triple in stretches:
            self.assertEqual((type(triple), len(triple)), (tuple, 3))
            self.assertIn(triple[2], WORDS)
            self.assertTrue(all(end is None or type(end) is int for end in triple[:2]))
        for one, other in zip(stretches, stretches[1:]):
            self.assertEqual(one[1] + 1, other[0])
            self.assertNotEqual(one[2], other[2])
        for first, last, _ in stretches[1:-1]:
            self.assertLessEqual(first, last)


class Interface(Lines):

    def test_defined_in_its_file_with_the_listed_names(self):
        self.assertEqual(line.__module__, "toldenough.lines")
        self.assertEqual(str(inspect.signature(line)), "(kind, sample, point, step, *, lies=0)")

    def test_arguments_by_name(self):
        sample = Sample(1, [((1,), True), ((4,), False)])
        self.assertEqual(line(lies=1, step=(1,), point=(0,), sample=sample, kind=Halves(1)), [(None, None, "open")])

    def test_arguments_are_not_changed_and_lists_are_new(self):
        point, step, sample = [0], [1], Sample(1, [((1,), True), ((4,), False)])
        wanted = [(None, 1, "yes"), (2, 3, "open"), (4, None, "no")]
        found = line(Halves(1), sample, point, step)
        self.assertEqual(shape(found), shape(wanted))
        found.clear()
        self.assertEqual(shape(line(Halves(1), sample, point, step)), shape(wanted))
        self.assertEqual((point, step, len(sample)), ([0], [1], 2))


class Examples(Lines):

    def test_42(self):
        found = line(Halves(1), Sample(1, [((1,), True), ((4,), False)]), (0,), (1,))
        self.assertEqual(shape(found), shape([(None, 1, "yes"), (2, 3, "open"), (4, None, "no")]))
        unfit = Sample(1, [((1,), True), ((4,), False), ((0,), False)])
        self.assertEqual(line(Halves(1), unfit, (0,), (1,)), [(None, None, "none")])

    def test_43(self):
        sample = Sample(2, [((0, 0), True), ((2, 2), True), ((5, 1), False)])
        self.assertEqual(line(Boxes(2), sample, (0, 1), (1, 0)),
                         [(None, -1, "open"), (0, 2, "yes"), (3, 4, "open"), (5, None, "no")])
        self.assertEqual(line(Boxes(2), sample, (0, 9), (1, 0)), [(None, 4, "open"), (5, None, "no")])
        self.assertEqual(line(Boxes(2), sample, (6, 0), (0, -1)), [(None, None, "no")])

    def test_no_end_on_either_side_one_stretch_and_one_integer(self):
        yes = Sample(2, [((0, 0), True), ((1, 1), True)])
        self.assertEqual(self.check(Flats(2), yes, (0, 4), (1, 0)),
                         [(None, 3, "open"), (4, 4, "yes"), (5, None, "open")])
        self.assertEqual(self.check(Flats(2), yes, (1, 4), (2, 0)), [(None, None, "open")])
        self.assertEqual(self.check(Flats(2), yes, (7, 7), (-3, -3)), [(None, None, "yes")])
        self.assertEqual(self.check(Flats(2), yes + Sample(2, [((5, 0), False)]), (0, 4), (1, 0)),
                         [(None, 3, "no"), (4, 4, "yes"), (5, None, "no")])
        axis = Sample(3, [((0, 0, 0), True), ((0, 0, 2), False)])
        self.assertEqual(self.check(Flats(3), axis, (0, 0, -3), (0, 0, 1)),
                         [(None, 2, "no"), (3, 3, "yes"), (4, None, "no")])
        self.assertEqual(self.check(Flats(3), axis, (5, 0, 1), (-1, 0, 0)),
                         [(None, 4, "open"), (5, 5, "no"), (6, None, "open")])

    def test_rising_with_steps_of_each_sign(self):
        sample = Sample(1, [((3,), True), ((-2,), False)])
        self.assertEqual(self.check(Rising(1), sample, (0,), (1,)),
                         [(None, -2, "no"), (-1, 2, "open"), (3, None, "yes")])
        self.assertEqual(self.check(Rising(1), sample, (0,), (-1,)),
                         [(None, -3, "yes"), (-2, 1, "open"), (2, None, "no")])
        self.assertEqual(self.check(Rising(1), sample, (0,), (2,)),
                         [(None, -1, "no"), (0, 1, "open"), (2, None, "yes")])
        self.assertEqual(self.check(Rising(1), sample, (0,), (-7,)),
                         [(None, -1, "yes"), (0, 0, "open"), (1, None, "no")])
        plane = Sample(2, [((0, 5), True)])
        self.assertEqual(self.check(Rising(2), plane, (4, 0), (0, 1)), [(None, 4, "open"), (5, None, "yes")])
        self.assertEqual(self.check(Rising(2), plane, (-1, 0), (0, 1)), [(None, None, "open")])
        self.assertEqual(self.check(Rising(2), plane, (0, 0), (-1, 1)), [(None, None, "open")])
        self.assertEqual(self.check(Rising(2), plane, (4, 4), (-1, 1)),
                         [(None, 0, "open"), (1, 4, "yes"), (5, None, "open")])

    def test_turns(self):
        sample = Sample(1, [((0,), True), ((4,), False), ((9,), True)])
        self.assertEqual(self.check(Turns(2), sample, (0,), (1,)),
                         [(None, 0, "yes"), (1, 3, "open"), (4, 4, "no"), (5, 8, "open"), (9, None, "yes")])
        self.assertEqual(self.check(Turns(2), sample, (1,), (3,)), [
            (None, -1, "yes"), (0, 0, "open"), (1, 1, "no"), (2, 2, "open"), (3, None, "yes")])
        self.assertEqual(self.check(Turns(1), sample, (0,), (1,)), [(None, None, "none")])
        self.assertEqual(self.check(Turns(1), sample, (0,), (1,), 1), [(None, None, "open")])
        self.assertEqual(self.check(Turns(0), sample.part([0]), (0,), (1,)), [(None, None, "yes")])
        self.assertEqual(self.check(~Turns(0), sample.part([1]), (5,), (-2,)), [(None, None, "no")])

    def test_boxes_in_space(self):
        sample = Sample(3, [((0, 0, 0), True), ((4, 4, 4), True), ((6, 6, 6), False)])
        self.assertEqual(self.check(Boxes(3), sample, (0, 0, 0), (1, 1, 1)),
                         [(None, -1, "open"), (0, 4, "yes"), (5, 5, "open"), (6, None, "no")])
        self.assertEqual(self.check(Boxes(3), sample, (0, 0, 0), (1, 1, 0)),
                         [(None, -1, "open"), (0, 4, "yes"), (5, None, "open")])
        self.assertEqual(self.check(Boxes(3), sample, (4, 2, 0), (0, -1, 0)),
                         [(None, -3, "open"), (-2, 2, "yes"), (3, None, "open")])

    def test_halves_in_the_plane_and_in_space(self):
        sample = Sample(2, [((0, 1), True), ((0, -1), True), ((4, 1), False), ((4, -1), False)])
        self.assertEqual(self.check(Halves(2), sample, (2, 0), (1, 0)),
                         [(None, -2, "yes"), (-1, 1, "open"), (2, None, "no")])
        self.assertEqual(self.check(Halves(2), sample, (0, 0), (0, 1)),
                         [(None, -2, "open"), (-1, 1, "yes"), (2, None, "open")])
        self.assertEqual(self.check(Halves(2), sample, (-4, 0), (0, -1)),
                         [(None, -4, "open"), (-3, 3, "yes"), (4, None, "open")])
        self.assertEqual(self.check(Halves(2), sample, (2, 0), (0, 1)), [(None, None, "open")])
        point = Sample(3, [((0, 0, 0), True), ((1, 2, 3), False)])
        self.assertEqual(self.check(Halves(3), point, (5, 10, 15), (1, 2, 3)),
                         [(None, -5, "yes"), (-4, None, "no")])
        self.assertEqual(self.check(Halves(3), point, (3, 6, 8), (0, 0, 1)),
                         [(None, 0, "open"), (1, 1, "no"), (2, None, "open")])
        self.assertEqual(self.check(Halves(3), point, (3, 6, 8), (0, 0, 2)), [(None, None, "open")])

    def test_kinds_put_together(self):
        sample = Sample(1, [((0,), True), ((3,), False), ((9,), False)])
        self.assertEqual(self.check(Halves(1) & Halves(1), sample, (0,), (1,)),
                         [(None, -1, "open"), (0, 0, "yes"), (1, 2, "open"), (3, None, "no")])
        self.assertEqual(self.check(~Boxes(1), sample, (0,), (1,)),
                         [(None, 0, "yes"), (1, 2, "open"), (3, 9, "no"), (10, None, "open")])
        self.assertEqual(self.check(Boxes(1) + ~Boxes(1), sample, (0,), (1,)),
                         [(None, -1, "open"), (0, 0, "yes"), (1, 2, "open"), (3, 9, "no"), (10, None, "open")])
        self.assertEqual(self.check(Flats(1) | Flats(1), sample, (0,), (1,)),
                         [(None, -1, "open"), (0, 0, "yes"), (1, 2, "open"), (3, 3, "no"), (4, 8, "open"),
                          (9, 9, "no"), (10, None, "open")])

    def test_lies(self):
        sample = Sample(1, [((0,), True), ((1,), True), ((5,), False), ((6,), False)])
        self.assertEqual(self.check(Halves(1), sample, (0,), (1,)),
                         [(None, 1, "yes"), (2, 4, "open"), (5, None, "no")])
        self.assertEqual(self.check(Halves(1), sample, (0,), (1,), 1),
                         [(None, 0, "yes"), (1, 5, "open"), (6, None, "no")])
        self.assertEqual(self.check(Halves(1), sample, (0,), (1,), 2), [(None, None, "open")])
        self.assertEqual(self.check(Halves(1), sample, (0,), (1,), 3), [(None, None, "open")])
        self.assertEqual(self.check(Halves(1), sample, (0,), (1,), 10 ** 20), [(None, None, "open")])
        again = sample + Sample(1, [((1,), False)])
        self.assertEqual(self.check(Halves(1), again, (0,), (1,)), [(None, None, "none")])
        self.assertEqual(self.check(Halves(1), again, (0,), (1,), 1),
                         [(None, 0, "yes"), (1, 4, "open"), (5, None, "no")])

    def test_empty_samples(self):
        for spec, places, _, _ in oracle.cases(71, 60, 0):
            kind = oracle.built(spec)
            for step in ((0,) * (places - 1) + (-5,), (LONG,) * places):
                self.assertEqual(line(kind, Sample(places), (3,) * places, step), [(None, None, "open")])

    def test_samples_that_do_not_fit(self):
        for spec, places, _, _ in oracle.cases(72, 40, 0):
            point = (2,) * places
            unfit = Sample(places, [(point, True), (point, False)])
            self.assertEqual(line(oracle.built(spec), unfit, point, (1,) * places), [(None, None, "none")])
            found = self.check(oracle.built(spec), unfit, point, (1,) * places, 1)
            self.assertEqual(word_at(found, 0), "open")

    def test_equal_examples(self):
        for kind in (Halves(2), Boxes(2), Flats(2), ~Flats(2), Boxes(2) | Rising(2)):
            sample = Sample(2, [((1, 1), True)] * 3)
            found = self.check(kind, sample, (0, 1), (1, 0), 2)
            self.assertEqual(word_at(found, 1), "yes")
            self.assertEqual(line(kind, sample, (0, 1), (1, 0), lies=3), [(None, None, "open")])

    def test_a_line_that_meets_points_of_the_sample_and_one_that_meets_none(self):
        sample = Sample(2, [((0, 0), True), ((2, 2), True), ((5, 5), False), ((6, 0), False)])
        for kind in (Halves(2), Boxes(2), Flats(2), ~Flats(2), Boxes(2) & ~Flats(2), Halves(2) | Boxes(2)):
            through = self.check(kind, sample, (0, 0), (1, 1), others=range(-20, 21))
            beside = self.check(kind, sample, (0, 1), (1, 1), others=range(-20, 21))
            for t, word in ((0, "yes"), (2, "yes"), (5, "no")):
                if through != [(None, None, "none")]:
                    self.assertEqual(word_at(through, t), word)
                    self.assertNotEqual(word_at(beside, -10), "none")
        self.assertEqual(line(Boxes(2), sample, (0, 0), (1, 1)),
                         [(None, -1, "open"), (0, 2, "yes"), (3, 4, "open"), (5, None, "no")])
        self.assertEqual(line(Boxes(2), sample, (0, 1), (1, 1)),
                         [(None, -1, "open"), (0, 1, "yes"), (2, 4, "open"), (5, None, "no")])


class LongNumbers(Lines):

    def test_a_point_of_14_and_a_step_of_15_digits(self):
        sample = Sample(1, [((3,), True), ((-98,), False)])
        self.assertEqual(self.check(Rising(1), sample, (-(10 ** 13),), (10 ** 14 + 1,)),
                         [(None, 0, "no"), (1, None, "yes")])
        self.assertEqual(self.check(Rising(1), sample, (-(10 ** 14) + 1,), (-1,)),
                         [(None, -(10 ** 14) - 2, "yes"), (-(10 ** 14) - 1, -(10 ** 14) + 98, "open"),
                          (-(10 ** 14) + 99, None, "no")])

    def test_stretches_with_long_ends(self):
        sample = Sample(2, [((0, 0), True), ((1, 2), False)])
        far = 10 ** 14
        self.assertEqual(self.check(Halves(2), sample, (far, 0), (0, 1)),
                         [(None, 2 * far - 1, "open"), (2 * far, 2 * far, "no"), (2 * far + 1, None, "open")])
        self.assertEqual(self.check(Halves(2), sample, (far, 1), (0, 2)), [(None, None, "open")])
        flat = Sample(2, [((1, 0), True), ((2, 99), True)])
        self.assertEqual(self.check(Flats(2), flat, (LONG, 0), (0, -1)),
                         [(None, -99 * (LONG - 1) - 1, "open"), (-99 * (LONG - 1), -99 * (LONG - 1), "yes"),
                          (-99 * (LONG - 1) + 1, None, "open")])
        # Points that lie far out on the line: 30 digits and more.
        self.assertEqual(self.check(Flats(2), flat, (LONG, 99 * (LONG - 1) - LONG * (LONG - 1)), (0, LONG)),
                         [(None, LONG - 2, "open"), (LONG - 1, LONG - 1, "yes"), (LONG, None, "open")])

    def test_each_kind(self):
        chance = random.Random(73)
        for spec, places, pairs, _ in oracle.cases(74, 150, 4):
            point = tuple(chance.randint(-(10 ** 14), 10 ** 14) for _ in range(places))
            step = tuple(chance.choice((0, 1, -1, chance.randint(-LONG, LONG))) for _ in range(places - 1))
            with self.subTest(spec=spec, pairs=pairs, point=point, step=step):
                self.check(oracle.built(spec), Sample(places, pairs), point, (*step, -LONG), chance.randint(0, 1))

    def test_lines_that_are_settled_far_out(self):
        chance = random.Random(75)
        found = 0
        for _ in range(200):
            places = chance.randint(1, 3)
            pairs = oracle.likely_pairs(chance, places, 4, 99)
            step = tuple(chance.randint(-LONG, LONG) for _ in range(places))
            # The line passes the first point after many steps.
            point = at(pairs[0][0], step, -chance.randint(10 ** 6, 10 ** 9))
            spec = oracle.random_spec(chance, places, chance.choice((1, 2)))
            kind, sample = oracle.built(spec), Sample(places, pairs)
            found += len(self.check(kind, sample, point, step)) > 1
        self.assertGreater(found, 60)


class AgainstAllCases(Lines):

    def test_each_kind(self):
        chance = random.Random(76)
        lengths = set()
        for spec, places, pairs, reach in oracle.cases(77, 250, 6):
            pairs = pairs if chance.random() < 0.3 else oracle.likely_pairs(chance, places, len(pairs), min(reach, 9))
            point, step = random_line(chance, places, pairs, min(reach, 9))
            lies = chance.choice((0, 0, 0, 1, 2)) if oracle.is_split(spec) else chance.choice((0, 0, 0, 1, 2, 3))
            with self.subTest(spec=spec, pairs=pairs, point=point, step=step, lies=lies):
                found = self.check(oracle.built(spec), Sample(places, pairs), point, step, lies, range(-30, 31))
                lengths.add(len(found))
                for t in range(-4, 5):
                    self.assertEqual(word_at(found, t), oracle.settled(spec, pairs, at(point, step, t), lies))
        self.assertLessEqual({1, 2, 3, 4, 5}, lengths)

    def test_plain_kinds_of_one_to_three_places(self):
        chance = random.Random(78)
        for places in (1, 2, 3):
            for spec in oracle.plain_specs(places):
                for count in range(12):
                    pairs = oracle.likely_pairs(chance, places, count % 6 + 1, 3)
                    point, step = random_line(chance, places, pairs, 3)
                    with self.subTest(spec=spec, pairs=pairs, point=point, step=step):
                        self.check(oracle.built(spec), Sample(places, pairs), point, step, count % 4, range(-40, 41))

    def test_as_much_as_may_be(self):
        chance = random.Random(79)
        for places in (1, 2, 3):
            for count in range(6):
                spec = oracle.random_spec(chance, places, 3, nots=0.6)
                split = oracle.is_split(spec)
                pairs = oracle.likely_pairs(chance, places, 6 if split else 8, 99)
                point, step = random_line(chance, places, pairs, 99)
                with self.subTest(spec=spec, pairs=pairs, point=point, step=step):
                    others = [chance.randint(-1000, 1000) for _ in range(60)]
                    self.check(oracle.built(spec), Sample(places, pairs), point, step, 2 if split else 3, others)

    def test_lists_stand_for_tuples(self):
        for spec, places, pairs, _ in oracle.cases(80, 20, 4):
            kind, sample = oracle.built(spec), Sample(places, as_lists(pairs))
            self.assertEqual(shape(line(kind, sample, [1] * places, [2] * places)),
                             shape(line(kind, sample, (1,) * places, (2,) * places)))


class Facts(Lines):

    def test_words_without_gaps(self):
        chance = random.Random(81)
        for _ in range(300):
            places = chance.randint(1, 3)
            pairs = oracle.likely_pairs(chance, places, 6, 4)
            point, step = random_line(chance, places, pairs, 4)
            for kind, words in ((Halves(places), ("yes", "no")), (Boxes(places), ("yes",)), (Flats(places), ("yes",))):
                found = line(kind, Sample(places, pairs), point, step)
                for word in words:
                    self.assertLessEqual(len([triple for triple in found if triple[2] == word]), 1)
                if words == ("yes", "no"):
                    self.assertLessEqual(len(found), 5)


class Errors(unittest.TestCase):

    def setUp(self):
        self.sample = Sample(2, [((0, 0), True)])
        self.places = [*any_objects(), 0, 7, (1,), (1, 2, 3), (1, True), [False, 0], (1, None), ((1, 2),), {1: 2, 3: 4}]

    def tearDown(self):
        self.assertEqual(self.sample, Sample(2, [((0, 0), True)]))

    def test_unlike_places_ahead_of_all_else(self):
        for kind, sample in ((Halves(1), self.sample), (Turns(2), self.sample), (~Boxes(3), self.sample),
                             (Boxes(2) & Flats(2), Sample(1)), (Rising(3) + Flats(3), Sample(2))):
            for things in (((0, 0), (1, 1), 0), (None, None, None), ((0,), (0,), -1), ("a", (1, 1), True)):
                with self.assertRaises(UnlikePlaces):
                    line(kind, sample, things[0], things[1], lies=things[2])

    def test_bad_point_keeps_the_very_object(self):
        for thing in self.places:
            for step, lies in (((1, 0), 0), ((0, 0), -1), (thing, thing)):
                with self.subTest(thing=thing):
                    with self.assertRaises(BadPoint) as caught:
                        line(Halves(2), self.sample, thing, step, lies=lies)
                    self.assertIs(caught.exception.point, thing)

    def test_bad_step_keeps_the_very_object(self):
        for thing in [*self.places, (0, 0), [0, 0], (False, False), (True, 0), (0, "1")]:
            for lies in (0, -1, None, True):
                with self.subTest(thing=thing):
                    with self.assertRaises(BadStep) as caught:
                        line(Boxes(2) | Flats(2), self.sample, (0, 0), thing, lies=lies)
                    self.assertIs(caught.exception.step, thing)
        for thing in ((0,), (0, 0, 0)):
            with self.assertRaises(BadStep):
                line(Turns(1) if len(thing) == 1 else Rising(3), Sample(len(thing)), thing, thing)

    def test_bad_lies_keeps_the_very_object(self):
        for thing in [*any_objects(), -1, -LONG]:
            with self.subTest(thing=thing):
                with self.assertRaises(BadLies) as caught:
                    line(Flats(2), self.sample, (0, 0), (0, 1), lies=thing)
                self.assertIs(caught.exception.lies, thing)


if __name__ == "__main__":
    unittest.main()

"""Points 13, 14, 15: costs, best rules, and what a sample settles; 43 as far as it speaks of these."""

import copy
import inspect
import itertools
import random
import unittest

import oracle
from objects import any_objects, as_lists, shape
from toldenough import fitting
from toldenough.errors import BadLies, BadPoint, UnlikePlaces
from toldenough.fitting import best_rule, cost, costs, settled, strength
from toldenough.kinds import Boxes, Flats, Halves, Rising, Turns
from toldenough.rules import says
from toldenough.samples import Sample

BIG = 10 ** 15 - 1


def mistakes(rule, pairs):
    return sum(says(rule, point) is not label for point, label in pairs)


class Interface(unittest.TestCase):

    def test_defined_in_their_file_with_the_listed_names(self):
        wanted = {"cost": "(kind, sample, *, given=None)", "best_rule": "(kind, sample, *, given=None)",
                  "costs": "(kind, sample, point)", "strength": "(kind, sample, point)",
                  "settled": "(kind, sample, point, *, lies=0)"}
        for name, parameters in wanted.items():
            function = getattr(fitting, name)
            self.assertEqual(function.__module__, "toldenough.fitting")
            self.assertEqual(str(inspect.signature(function)), parameters)

    def test_arguments_by_name(self):
        kind, sample = Halves(1), Sample(1, [((1,), True), ((4,), False)])
        self.assertEqual(cost(sample=sample, kind=kind, given=Sample(1)), 0)
        self.assertIs(kind.has(best_rule(sample=sample, kind=kind, given=Sample(1))), True)
        self.assertEqual(costs(point=(0,), sample=sample, kind=kind), (0, 1))
        self.assertEqual(strength(point=(0,), sample=sample, kind=kind), 1)
        self.assertEqual(settled(point=(0,), lies=0, sample=sample, kind=kind), "yes")

    def test_kinds_of_values(self):
        kind, sample = Boxes(2), Sample(2, [((0, 0), True), ((0, 0), False)])
        self.assertEqual(shape(cost(kind, sample)), shape(1))
        self.assertEqual(shape(costs(kind, sample, (0, 0))), shape((1, 1)))
        self.assertEqual(shape(strength(kind, sample, (0, 0))), shape(0))

    def test_arguments_are_not_changed(self):
        for spec, places, pairs, reach in oracle.cases(1, 40, 6):
            kind, sample, given = oracle.built(spec), Sample(places, pairs), Sample(places, pairs[:1])
            point = [0] * places
            cost(kind, sample, given=given)
            best_rule(kind, sample, given=given)
            costs(kind, sample, point)
            settled(kind, sample, point, lies=1)
            self.assertEqual(point, [0] * places)
            self.assertEqual(sample.examples(), pairs)
            self.assertEqual(given.examples(), pairs[:1])
            self.assertEqual(kind, oracle.built(spec))


class Example43(unittest.TestCase):

    def test_boxes(self):
        kind = Boxes(2)
        sample = Sample(2, [((0, 0), True), ((2, 2), True), ((5, 1), False)])
        self.assertEqual(settled(kind, sample, (1, 2)), "yes")
        self.assertEqual(settled(kind, sample, (6, 1)), "no")
        self.assertEqual(costs(kind, sample, (6, 1)), (1, 0))
        self.assertEqual(settled(kind, sample, (4, 9)), "open")

    def test_halves(self):
        kind = Halves(1)
        sample = Sample(1, [((1,), True), ((4,), False)])
        found = {entry: settled(kind, sample, (entry,)) for entry in range(-3, 8)}
        self.assertEqual(found, {entry: "yes" if entry <= 1 else "no" if entry >= 4 else "open"
                                 for entry in range(-3, 8)})
        self.assertEqual(cost(kind, sample + Sample(1, [((0,), False)])), 1)


class Costs(unittest.TestCase):

    def check(self, kind, pairs, given, wanted):
        sample = Sample(kind.places, pairs)
        held = None if given is None else Sample(kind.places, given)
        self.assertEqual(shape(cost(kind, sample, given=held)), shape(wanted))
        rule = best_rule(kind, sample, given=held)
        if wanted is None:
            self.assertIsNone(rule)
            return
        self.assertIs(kind.has(rule), True, (kind.text(), rule))
        # What is returned has tuples, and may be passed on as lists, too.
        self.assertIsInstance(rule, tuple)
        self.assertIs(kind.has(as_lists(rule)), True)
        self.assertEqual(mistakes(rule, pairs), wanted)
        self.assertEqual(mistakes(rule, given or []), 0)

    def test_each_kind_against_all_cases(self):
        for spec, places, pairs, reach in oracle.cases(2, 400, 6):
            with self.subTest(spec=spec, pairs=pairs):
                self.check(oracle.built(spec), pairs, None, oracle.cost(spec, pairs))

    def test_given_against_all_cases(self):
        for at, (spec, places, pairs, reach) in enumerate(oracle.cases(3, 400, 8)):
            given = pairs[:at % 4]
            with self.subTest(spec=spec, pairs=pairs, given=given):
                self.check(oracle.built(spec), pairs[at % 4:], given, oracle.cost(spec, pairs[at % 4:], given))

    def test_plain_kinds_on_small_points(self):
        for spec in oracle.plain_specs(1):
            for entries in itertools.product(range(3), repeat=4):
                for labels in itertools.product((True, False), repeat=4):
                    pairs = [((entry,), label) for entry, label in zip(entries, labels)]
                    self.check(oracle.built(spec), pairs, None, oracle.cost(spec, pairs))
        grid = list(itertools.product((0, 1, 2), repeat=2))
        for spec in oracle.plain_specs(2):
            for points in itertools.combinations(grid, 4):
                for labels in itertools.product((True, False), repeat=3):
                    pairs = list(zip(points, (True, *labels)))
                    self.check(oracle.built(spec), pairs, None, oracle.cost(spec, pairs))

    def test_empty_samples(self):
        for spec, places, _, _ in oracle.cases(4, 60, 0):
            kind = oracle.built(spec)
            self.check(kind, [], None, 0)
            self.check(kind, [], [], 0)
            for label in (True, False):
                self.check(kind, [], [((7,) * places, label)], 0)

    def test_given_that_no_rule_fits(self):
        for spec, places, pairs, _ in oracle.cases(5, 60, 5):
            given = [((3,) * places, True), ((3,) * places, False)]
            self.check(oracle.built(spec), pairs, given, None)
        self.check(Halves(1), [((9,), True)], [((1,), True), ((2,), False), ((3,), True)], None)
        self.check(Turns(0), [], [((1,), True), ((2,), False)], None)
        self.check(Boxes(1) | Boxes(1), [((9,), True)], [((1,), True), ((1,), False)], None)

    def test_given_is_fitted_whatever_it_costs(self):
        pairs = [((entry,), True) for entry in (0, 1, 2, 4, 5)]
        self.check(Halves(1), pairs, [((3,), False)], 2)
        self.check(Boxes(1), pairs, [((3,), False)], 2)
        self.check(Turns(2), pairs, [((3,), False)], 0)
        self.check(Turns(0), pairs, [((3,), False)], 5)
        self.check(Rising(1), pairs, [((3,), False)], 3)
        self.check(Flats(1), pairs, [((3,), False)], 4)

    def test_mistakes_are_counted_with_each_of_equal_examples(self):
        yes, no = ((1, 1), True), ((1, 1), False)
        for kind in (Halves(2), Boxes(2), Rising(2), Flats(2), ~Flats(2), Boxes(2) & Flats(2), Rising(2) | Halves(2)):
            self.check(kind, [yes, yes, no], None, 1)
            self.check(kind, [yes, no, no, no, yes], None, 2)
            self.check(kind, [yes, yes, yes], None, 0)
            self.check(kind, [yes, yes, no], [no], 2)
            self.check(kind, [yes, yes, yes], [no, no], 3)
        self.check(Turns(0), [((1,), True), ((1,), False), ((2,), False), ((2,), False)], None, 1)

    def test_flat_points_of_which_one_is_a_combination_of_others(self):
        line = [((0, 0, 0), True), ((1, 1, 1), True), ((3, 3, 3), True)]
        self.check(Flats(3), [*line, ((-7, -7, -7), False)], None, 1)
        self.check(Flats(3), [*line, ((1, 1, 0), False)], None, 0)
        plane = [((0, 0, 1), True), ((2, 0, 1), True), ((1, 0, 1), True), ((0, 5, 1), True), ((2, 5, 1), True)]
        self.check(Flats(3), [*plane, ((9, -8, 1), False)], None, 1)
        self.check(Flats(3), [*plane, ((9, -8, 1), False), ((7, 7, 1), False), ((9, -8, 2), False)], None, 2)
        self.check(Flats(3), plane, [((9, -8, 1), False)], 2)

    def test_entries_at_the_ends(self):
        corners = list(itertools.product((-99, 99), repeat=3))
        pairs = [(corner, sum(corner) > 0) for corner in corners]
        self.check(Halves(3), pairs, None, 0)
        self.check(Halves(3), pairs, [((0, 0, 0), True), ((1, 1, 1), False)], 4)
        self.check(Rising(3), pairs, None, 0)
        self.check(Boxes(3), pairs, None, 2)
        self.check(Flats(3), [(corner, corner[0] == 99) for corner in corners], None, 0)
        self.check(Turns(0), [((-99,), True), ((99,), False)], None, 1)
        self.check(Turns(1), [((-99,), True), ((99,), False)], None, 0)

    def test_turns_of_none_and_of_six(self):
        pairs = [((entry,), entry % 2 == 0) for entry in range(8)]
        for most in range(7):
            self.check(Turns(most), pairs, None, (8 - most) // 2)
            self.check(~Turns(most), pairs, None, (8 - most) // 2)
        self.check(Turns(6), pairs[:7], None, 0)
        self.check(Turns(0), [((entry,), entry != 3) for entry in range(8)], None, 1)

    def test_rules_that_are_within_one_another(self):
        ring = [((0, 0), False), ((3, 0), True), ((0, 3), True), ((-3, 0), True), ((0, -3), True), ((9, 9), False)]
        self.check(Boxes(2), ring, None, 1)
        self.check(Boxes(2) & ~Boxes(2), ring, None, 0)
        self.check(~Boxes(2), ring, None, 1)
        self.check(~(~Boxes(2) | Boxes(2)), ring, None, 0)
        self.check(Halves(2) & Halves(2), ring, None, 1)
        self.check((Halves(2) & Halves(2)) | (Boxes(2) + Flats(2)), ring, None, 0)

    def test_of_both_kinds_of_a_sum_the_better_one(self):
        pairs = [((0,), True), ((1,), False), ((2,), True), ((3,), True)]
        self.check(Halves(1) + Flats(1), pairs, None, 1)
        self.check(Flats(1) + Turns(2), pairs, None, 0)
        self.check(Turns(2) + Flats(1), pairs, None, 0)
        self.check(Flats(1) + Turns(2), pairs, [((9,), False)], 1)


class AtTheLimits(unittest.TestCase):

    def test_as_much_as_may_be(self):
        chance = random.Random(7)
        for _ in range(25):
            places = chance.randint(1, 3)
            spec = oracle.random_spec(chance, places, 3, nots=0)
            for _ in range(9):
                spec = ("not", spec) if chance.random() < 0.6 else (spec[0], ("not", spec[1]), *spec[2:]) \
                    if isinstance(spec[1], tuple) else spec
            kind = oracle.built(spec)
            many = 6 if oracle.is_split(spec) else 8
            pairs = oracle.random_pairs(chance, places, many, chance.choice((1, 2, 99)))
            given = Sample(places, oracle.random_pairs(chance, places, 3, 99))
            sample = Sample(places, pairs)
            rule, wrong = best_rule(kind, sample, given=given), cost(kind, sample, given=given)
            if wrong is None:
                self.assertIsNone(rule)
            else:
                self.assertEqual(mistakes(rule, pairs), wrong)
                self.assertEqual(mistakes(rule, given.examples()), 0)
            for lies in range(3):
                self.assertIn(settled(kind, sample, (BIG,) * places, lies=lies), ("yes", "no", "open", "none"))


class Settled(unittest.TestCase):

    def test_against_all_cases(self):
        for at, (spec, places, pairs, reach) in enumerate(oracle.cases(8, 200, 6)):
            kind, sample = oracle.built(spec), Sample(places, pairs)
            point = oracle.random_point(random.Random(at), places, reach)
            with self.subTest(spec=spec, pairs=pairs, point=point):
                wanted = tuple(oracle.cost(spec, pairs, [(point, label)]) for label in (True, False))
                self.assertEqual(shape(costs(kind, sample, point)), shape(wanted))
                self.assertEqual(shape(costs(kind, sample, list(point))), shape(wanted))
                self.assertEqual(shape(strength(kind, sample, point)), shape(wanted[1] - wanted[0]))
                for lies in range(4):
                    self.assertEqual(settled(kind, sample, point, lies=lies),
                                     oracle.settled(spec, pairs, point, lies))

    def test_each_word(self):
        sample = Sample(1, [((0,), True), ((1,), True), ((5,), False), ((6,), False)])
        self.assertEqual([settled(Halves(1), sample, (entry,)) for entry in (-9, 3, 9)], ["yes", "open", "no"])
        self.assertEqual([settled(Halves(1), sample, (entry,), lies=1) for entry in (-9, 1, 3, 5, 9)],
                         ["yes", "open", "open", "open", "no"])
        self.assertEqual(settled(Halves(1), sample, (-9,), lies=2), "open")
        self.assertEqual(costs(Halves(1), sample, (-9,)), (0, 2))
        self.assertEqual(strength(Halves(1), sample, (-9,)), 2)
        self.assertEqual(strength(Halves(1), sample, (9,)), -2)
        unfit = Sample(1, [((0,), True), ((1,), False)] * 2)
        self.assertEqual(settled(Turns(0), unfit, (0,)), "none")
        self.assertEqual(settled(Turns(0), unfit, (0,), lies=1), "none")
        self.assertEqual(settled(Turns(0), unfit, (0,), lies=2), "open")

    def test_no_lies_is_the_default(self):
        for spec, places, pairs, reach in oracle.cases(9, 30, 5):
            kind, sample, point = oracle.built(spec), Sample(places, pairs), (0,) * places
            self.assertEqual(settled(kind, sample, point), settled(kind, sample, point, lies=0))

    def test_points_with_long_entries(self):
        sample = Sample(2, [((0, 0), True), ((1, 1), True), ((0, 1), False)])
        self.assertEqual(settled(Flats(2), sample, (BIG, BIG)), "yes")
        self.assertEqual(settled(Flats(2), sample, (BIG, BIG - 1)), "no")
        half = Sample(2, [((0, 0), True), ((1, 0), False), ((0, 1), False)])
        self.assertEqual(settled(Halves(2), half, (BIG, BIG)), "no")
        self.assertEqual(settled(Halves(2), half, (BIG, 0)), "no")
        self.assertEqual(settled(Halves(2), half, (BIG, -1)), "open")
        self.assertEqual(settled(Halves(2), half, (-BIG, 0)), "yes")
        self.assertEqual(settled(Halves(2), half, (-BIG, 1)), "open")
        self.assertEqual(settled(Rising(2), half, (BIG, BIG)), "none")
        self.assertEqual(settled(Rising(2), Sample(2, [((0, 0), True)]), (BIG, BIG)), "yes")
        self.assertEqual(settled(Boxes(2), Sample(2, [((0, 0), True), ((1, 1), False)]), (BIG, BIG)), "no")
        self.assertEqual(settled(Turns(1), Sample(1, [((0,), True), ((1,), False)]), (-BIG,)), "yes")
        flat = Sample(3, [((1, 0, 0), True), ((0, 1, 0), True), ((0, 0, 1), True), ((5, 5, 5), False)])
        self.assertEqual(settled(Flats(3), flat, (BIG, -BIG, 1)), "yes")
        self.assertEqual(settled(Flats(3), flat, (BIG, -BIG, 2)), "no")
        self.assertEqual(settled(~(Flats(3) & Flats(3)), flat.turned(), (BIG, -BIG, 1)), "no")

    def test_rules_for_long_entries(self):
        for kind in (Halves(3), Boxes(3), Rising(3), Flats(3), ~Halves(3) & Flats(3), Rising(3) + Boxes(3)):
            pairs = [((BIG, -BIG, BIG - 1), True), ((BIG, -BIG, BIG - 2), False), ((1 - BIG, BIG, -7), True)]
            rule = best_rule(kind, Sample(3, pairs))
            self.assertIs(kind.has(rule), True)
            self.assertEqual(mistakes(rule, pairs), cost(kind, Sample(3, pairs)))

    def test_facts(self):
        for at, (spec, places, pairs, reach) in enumerate(oracle.cases(10, 120, 5)):
            kind, sample = oracle.built(spec), Sample(places, pairs)
            chance = random.Random(at)
            one, other = [oracle.random_point(chance, places, reach) for _ in range(2)]
            before = costs(kind, sample, one)
            self.assertEqual(min(before), cost(kind, sample))
            self.assertEqual(before[0], cost(kind, sample, given=Sample(places, [(one, True)])))
            self.assertEqual(before[1], cost(kind, sample, given=Sample(places, [(one, False)])))
            for label in (True, False):
                after = costs(kind, sample + Sample(places, [(one, label)]), one)
                self.assertEqual(after, (before[0] + (not label), before[1] + label))
                grown = costs(kind, sample + Sample(places, [(other, label)]), one)
                for old, new in zip(before, grown):
                    self.assertIn(new - old, (0, 1))


class Errors(unittest.TestCase):

    def test_unlike_places_ahead_of_all_else(self):
        good, other = Sample(2, [((0, 0), True)]), Sample(1, [((0,), True)])
        for kind, sample in ((Halves(2), other), (Turns(0), good), (Boxes(2) & Flats(2), other), (~Rising(3), good)):
            for call in (lambda: cost(kind, sample), lambda: best_rule(kind, sample),
                         lambda: cost(kind, sample, given=good), lambda: best_rule(kind, sample, given=other),
                         lambda: costs(kind, sample, None), lambda: strength(kind, sample, (1, 2, 3, 4)),
                         lambda: settled(kind, sample, "point", lies=-1)):
                with self.assertRaises(UnlikePlaces):
                    call()
        for function in (cost, best_rule):
            with self.assertRaises(UnlikePlaces):
                function(Halves(2), good, given=other)
            with self.assertRaises(UnlikePlaces):
                function(Halves(2), good, given=Sample(3))
            with self.assertRaises(UnlikePlaces):
                function(Halves(2), Sample(1), given=Sample(1))
        self.assertEqual(good.examples(), [((0, 0), True)])

    def test_bad_point_keeps_the_very_object(self):
        sample = Sample(2, [((0, 0), True)])
        wrong = [*any_objects(), 0, (1,), (1, 2, 3), (1, True), [False, 0], (1, None), ("1", 2), ((1, 2),),
                 {1: 2, 3: 4}]
        for thing in wrong:
            for call in (costs, strength, settled, lambda *things: settled(*things, lies="lies")):
                with self.subTest(thing=thing):
                    with self.assertRaises(BadPoint) as caught:
                        call(Halves(2), sample, thing)
                    self.assertIs(caught.exception.point, thing)
        self.assertEqual(sample.examples(), [((0, 0), True)])

    def test_bad_lies_keeps_the_very_object(self):
        sample = Sample(1, [((0,), True)])
        for thing in [*any_objects(), -1, -BIG]:
            with self.subTest(thing=thing):
                with self.assertRaises(BadLies) as caught:
                    settled(Halves(1), sample, (0,), lies=thing)
                self.assertIs(caught.exception.lies, thing)

    def test_later_changes_have_no_effect(self):
        pairs = [[[0, 0], True], [[2, 2], True], [[5, 1], False]]
        sample = Sample(2, copy.deepcopy(pairs))
        rule = best_rule(Rising(2), sample)
        again = copy.deepcopy(rule)
        sample.examples().clear()
        self.assertEqual(rule, again)
        self.assertEqual(settled(Boxes(2), sample, [1, 2]), "yes")


if __name__ == "__main__":
    unittest.main()

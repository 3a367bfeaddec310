"""Points 16, 17 and 18: certificates, and what is one; 42 as far as it speaks of them."""

import copy
import inspect
import random
import unittest

import oracle
from objects import any_objects, as_lists, as_tuples, changed_at_each_place, mixed, shape
from toldenough import certificates
from toldenough.certificates import certificate, is_certificate
from toldenough.errors import BadLies, UnlikePlaces
from toldenough.fitting import cost
from toldenough.kinds import Boxes, Flats, Halves, Rising, Turns
from toldenough.samples import Sample


def sample_of(yeses, noes):
    """Return the sample of the yes points, then the no points."""
    return Sample(len((yeses + noes)[0]), [(point, True) for point in yeses] + [(point, False) for point in noes])


def has_written_form(thing):
    """Tell whether lists and tuples stand in the certificate as the document writes them."""
    def is_list_of_pairs(rows):
        return isinstance(rows, list) and all(isinstance(row, tuple) and len(row) == 2 for row in rows)
    if not isinstance(thing, tuple):
        return False
    word, *rest = thing
    if word == "meet":
        return is_list_of_pairs(rest[0]) and is_list_of_pairs(rest[1])
    if word in ("between", "span"):
        return type(rest[0]) is int and is_list_of_pairs(rest[1])
    if word == "above":
        return all(type(number) is int for number in rest)
    if word == "turns":
        return isinstance(rest[0], list)
    if word == "wrong":
        plain, rows = rest
        return has_written_form(plain) and is_list_of_pairs(rows) and all(has_written_form(row[1]) for row in rows)
    if word == "split":
        return type(rest[0]) is int and all(has_written_form(part) for part in rest[1:])
    return word in ("not", "neither", "one", "other") and all(has_written_form(part) for part in rest)


def lists_in(thing):
    """Return the lists in the thing, at every depth."""
    found = [thing] if isinstance(thing, list) else []
    if isinstance(thing, (list, tuple)):
        for part in thing:
            found += lists_in(part)
    return found


class Cases(unittest.TestCase):

    def is_one(self, kind, sample, thing, wanted, lies=0, given=None):
        """Check the thing with tuples and with lists, and that nothing is changed."""
        for form in (thing, as_lists(thing), as_tuples(thing), mixed(thing)):
            with self.subTest(kind=kind.text(), thing=form):
                before = copy.deepcopy(form)
                self.assertIs(is_certificate(kind, sample, form, lies, given=given), wanted)
                self.assertEqual(shape(form), shape(before))

    def are_none(self, kind, sample, things, lies=0, given=None):
        for thing in things:
            self.is_one(kind, sample, thing, False, lies, given)


class Interface(unittest.TestCase):

    def test_defined_in_their_file_with_the_listed_names(self):
        wanted = {"certificate": "(kind, sample, lies=0, *, given=None)",
                  "is_certificate": "(kind, sample, thing, lies=0, *, given=None)"}
        for name, parameters in wanted.items():
            function = getattr(certificates, name)
            self.assertEqual(function.__module__, "toldenough.certificates")
            self.assertEqual(str(inspect.signature(function)), parameters)

    def test_arguments_by_name(self):
        sample = sample_of([(0,)], [(1,)])
        found = certificate(lies=0, sample=sample, kind=Rising(1), given=Sample(1))
        self.assertEqual(shape(found), shape(("above", 0, 1)))
        self.assertIs(is_certificate(lies=0, thing=found, sample=sample, kind=Rising(1), given=Sample(1)), True)


class Example42(Cases):

    def test_halves(self):
        sample = Sample(1, [((1,), True), ((4,), False), ((0,), False)])
        self.is_one(Halves(1), sample, ("meet", [(0, 4)], [(1, 1), (2, 3)]), True)
        self.assertIs(is_certificate(Halves(1), sample, certificate(Halves(1), sample)), True)
        self.assertIsNone(certificate(Halves(1), sample, 1))


class Returned(Cases):

    def check(self, spec, places, pairs, given):
        kind, sample, held = oracle.built(spec), Sample(places, pairs), Sample(places, given)
        wrong = oracle.cost(spec, pairs, given)
        for lies in range(3 if oracle.is_split(spec) else 4):
            found = certificate(kind, sample, lies, given=held)
            if wrong is not None and wrong <= lies:
                self.assertIsNone(found)
                continue
            self.is_one(kind, sample, found, True, lies, held)
            self.assertTrue(has_written_form(found), found)
            for other in range(4):
                # One of given alone, without rows, is one for any number of mistakes from 1 on.
                without_rows = lies > 0 and other > 0 and found[2] == []
                if other != lies:
                    self.assertIs(is_certificate(kind, sample, found, other, given=held), without_rows)
            lists = lists_in(found) + lists_in(certificate(kind, sample, lies, given=held))
            self.assertEqual(len({id(part) for part in lists}), len(lists))

    def test_all_kinds(self):
        for spec, places, pairs, _ in oracle.cases(21, 300, 6):
            with self.subTest(spec=spec, pairs=pairs):
                self.check(spec, places, pairs, [])

    def test_with_given(self):
        for at, (spec, places, pairs, _) in enumerate(oracle.cases(22, 300, 8)):
            with self.subTest(spec=spec, pairs=pairs):
                self.check(spec, places, pairs[at % 4:], pairs[:at % 4])

    def test_points_that_occur_again(self):
        chance = random.Random(23)
        for _ in range(150):
            places = chance.randint(1, 3)
            points = [oracle.random_point(chance, places, 1) for _ in range(2)]
            pairs = [(chance.choice(points), chance.random() < 0.5) for _ in range(6)]
            spec = oracle.random_spec(chance, places, chance.choice((1, 2, 3)))
            with self.subTest(spec=spec, pairs=pairs):
                self.check(spec, places, pairs, [])

    def test_no_given_is_as_an_empty_one(self):
        for spec, places, pairs, _ in oracle.cases(24, 60, 5):
            kind, sample = oracle.built(spec), Sample(places, pairs)
            for lies in range(3):
                found = certificate(kind, sample, lies)
                self.assertEqual(found is None, cost(kind, sample) <= lies)
                if found is not None:
                    self.assertIs(is_certificate(kind, sample, found, lies), True)

    def test_empty_samples(self):
        for spec, places, _, _ in oracle.cases(25, 40, 0):
            kind = oracle.built(spec)
            for lies in range(4):
                self.assertIsNone(certificate(kind, Sample(places), lies))
                self.assertIsNone(certificate(kind, Sample(places), lies, given=Sample(places)))
                for thing in any_objects():
                    self.assertIs(is_certificate(kind, Sample(places), thing, lies), False)

    def test_given_that_no_rule_fits_alone(self):
        given = [((3,), True), ((3,), False)]
        for spec in [*oracle.plain_specs(1), ("not", ("both", ("halves", 1), ("turns", 6))),
                     ("either", ("boxes", 1), ("any", ("flats", 1), ("rising", 1)))]:
            for pairs in ([], [((0,), True)], [((3,), True), ((3,), False), ((4,), True)]):
                self.check(spec, 1, pairs, given)
        found = certificate(Turns(0), sample_of([(1,)], [(2,)]), 3, given=sample_of([(5,)], [(6,)]))
        self.assertEqual(found, ("wrong", ("turns", [2, 3]), []))

    def test_as_much_as_may_be(self):
        ring = [((0, 0), True), ((3, 0), False), ((0, 3), False), ((-3, -3), False), ((0, 1), True), ((0, 0), False)]
        given = [((1, 0), True), ((-1, -1), False), ((99, -99), False)]
        for spec in [("both", ("both", ("halves", 2), ("not", ("flats", 2))), ("boxes", 2)),
                     ("not", ("either", ("not", ("both", ("rising", 2), ("not", ("halves", 2)))), ("flats", 2))),
                     ("either", ("either", ("flats", 2), ("flats", 2)), ("not", ("not", ("flats", 2)))),
                     ("both", ("either", ("rising", 2), ("halves", 2)), ("any", ("not", ("boxes", 2)), ("halves", 2)))]:
            for _ in range(3):
                spec = ("not", spec)
                self.check(spec, 2, ring, given)
                self.check(spec, 2, [(point, not label) for point, label in ring], given)
        line = [((entry,), entry % 2 == 0) for entry in range(-4, 4)]
        for most in range(7):
            self.check(("turns", most), 1, line, [])
        wall = [((-99, -99, -99), True), ((99, 99, 99), True), ((0, 0, 0), False), ((1, 1, 1), False),
                ((99, 98, 97), True), ((98, 98, 98), False), ((97, 97, 97), False), ((5, 5, 5), True)]
        for word in ("halves", "boxes", "rising", "flats"):
            self.check((word, 3), 3, wall, [])
            self.check(("any", ("not", (word, 3)), ("any", (word, 3), ("halves", 3))), 3, wall, [])


class Meet(Cases):

    def test_what_is_one(self):
        kind, sample = Halves(1), sample_of([(1,), (1,), (3,)], [(4,), (0,), (2,)])
        for thing in (("meet", [(0, 4)], [(3, 1), (4, 3)]), ("meet", [(0, 8)], [(3, 2), (4, 6)]),
                      ("meet", [(0, 1), (1, 3)], [(4, 3), (3, 1)]), ("meet", [(1, 1), (2, 1)], [(5, 2)]),
                      ("meet", [(2, 1), (0, 1)], [(4, 1), (3, 1)]),
                      ("meet", [(1, 2), (2, 2)], [(4, 1), (3, 1), (5, 2)])):
            self.is_one(kind, sample, thing, True)

    def test_places(self):
        sample = sample_of([(0, 0), (2, 2)], [(0, 2), (2, 0), (1, 1)])
        self.is_one(Halves(2), sample, ("meet", [(0, 1), (1, 1)], [(2, 1), (3, 1)]), True)
        self.is_one(Halves(2), sample, ("meet", [(0, 3), (1, 3)], [(4, 6)]), True)
        self.are_none(Halves(2), sample, [("meet", [(0, 2)], [(2, 1), (3, 1)]), ("meet", [(0, 1)], [(4, 1)])])

    def test_what_is_none(self):
        kind, sample = Halves(1), sample_of([(1,), (1,), (3,)], [(4,), (0,), (2,)])
        self.are_none(kind, sample, [
            ("meet", [], []), ("meet", [(0, 0)], [(3, 0)]), ("meet", [(0, 4), (2, 0)], [(3, 1), (4, 3)]),
            ("meet", [(0, -4)], [(3, -1), (4, -3)]), ("meet", [(0, 2), (0, 2)], [(3, 1), (4, 3)]),
            ("meet", [(0, 4)], [(3, 1), (4, 2), (4, 1)]), ("meet", [(0, 4)], [(3, 1), (4, 2)]),
            ("meet", [(0, 3)], [(3, 1), (4, 2)]), ("meet", [(0, 4)], [(3, 1), (4, 4)]),
            ("meet", [(3, 1), (4, 3)], [(0, 4)]), ("meet", [(0, 4)], [(1, 4)]), ("meet", [(5, 1)], [(5, 1)]),
            ("meet", [(0, 4)], [(3, 1), (6, 3)]), ("meet", [(-6, 4)], [(3, 1), (4, 3)]), ("meet", [(0, 4)]),
            ("meet", [(0, 4)], [(3, 1), (4, 3)], []), ("meet", [(0, 4, 0)], [(3, 1), (4, 3)]),
            ("meet", [(0,)], [(3, 1), (4, 3)]), ("meet", (0, 4), [(3, 1), (4, 3)]),
            ("meat", [(0, 4)], [(3, 1), (4, 3)]),
            ("meet", [(0, 4)], []), ("meet", [], [(3, 1), (4, 3)]), ("not", ("meet", [(0, 4)], [(3, 1), (4, 3)]))])

    def test_numbers_that_are_truth_values(self):
        sample = sample_of([(1,), (1,)], [(1,)])
        self.is_one(Halves(1), sample, ("meet", [(1, 1)], [(2, 1)]), True)
        self.are_none(Halves(1), sample, [("meet", [(True, 1)], [(2, 1)]), ("meet", [(1, True)], [(2, 1)]),
                                          ("meet", [(False, 1)], [(2, 1)]), ("meet", [(1, 1)], [(2, True)])])


class Between(Cases):

    def test_what_is_one(self):
        sample = sample_of([(0, 5), (4, 0), (2, 2)], [(2, 2), (1, 1), (9, 9)])
        for thing in (("between", 3, [(0, 1), (1, 0)]), ("between", 3, [(2, 2), (2, 2)]),
                      ("between", 3, [(0, 2), (2, 2)]), ("between", 4, [(0, 2), (1, 0)]),
                      ("between", 4, [(0, 1), (1, 2)])):
            self.is_one(Boxes(2), sample, thing, True)

    def test_what_is_none(self):
        sample = sample_of([(0, 5), (4, 0), (2, 2)], [(2, 2), (1, 1), (9, 9)])
        self.are_none(Boxes(2), sample, [
            ("between", 3, [(1, 0), (1, 0)]), ("between", 3, [(0, 1), (0, 1)]), ("between", 5, [(0, 1), (1, 0)]),
            ("between", 4, [(2, 1), (1, 0)]), ("between", 4, [(0, 0), (1, 0)]), ("between", 3, [(0, 1)]),
            ("between", 3, [(0, 1), (1, 0), (0, 0)]), ("between", 3, []), ("between", 3, (0, 1)),
            ("between", 2, [(0, 1), (1, 0)]), ("between", 6, [(0, 1), (1, 0)]), ("between", -3, [(0, 1), (1, 0)]),
            ("between", 3, [(0, 3), (1, 0)]), ("between", 3, [(0, 1), (1, 6)]), ("between", 3, [(0, 1), (-2, 0)]),
            ("between", 3, [(0, 1, 1), (1, 0)]), ("between", 3, [(0,), (1, 0)]), ("between", 3),
            ("between", 3, [(0, 1), (1, 0)], 0), ("between", (3,), [(0, 1), (1, 0)]),
            ("between", 3, [(False, 1), (1, 0)]), ("between", 3, [(0, True), (1, 0)])])

    def test_numbers_that_are_truth_values(self):
        sample = Sample(1, [((1,), True), ((1,), False)])
        self.is_one(Boxes(1), sample, ("between", 1, [(0, 0)]), True)
        self.are_none(Boxes(1), sample, [("between", True, [(0, 0)]), ("between", 1, [(False, 0)])])

    def test_equal_entries_lie_between(self):
        for place, wanted in ((0, True), (1, True), (5, True), (6, False), (-1, False)):
            self.is_one(Boxes(1), sample_of([(0,), (5,)], [(place,)]), ("between", 2, [(0, 1)]), wanted)


class Above(Cases):

    def test_what_is_one(self):
        sample = sample_of([(0, 0), (1, 2)], [(1, 2), (0, 9), (-1, 9)])
        self.is_one(Rising(2), sample, ("above", 0, 2), True)
        self.is_one(Rising(2), sample, ("above", 1, 2), True)
        self.is_one(Rising(2), sample, ("above", 0, 3), True)
        self.are_none(Rising(2), sample, [
            ("above", 1, 3), ("above", 0, 4), ("above", 2, 0), ("above", 0, 1), ("above", 2, 2), ("above", 0, 5),
            ("above", -5, 2), ("above", False, 2), ("above", True, 2), ("above", 0), ("above", 0, 2, 2),
            ("above", [0], 2), ("above", 0, [2]), ("above", 0, None), ("below", 0, 2)])

    def test_numbers_that_are_truth_values(self):
        sample = Sample(1, [((1,), True), ((1,), False)])
        self.is_one(Rising(1), sample, ("above", 0, 1), True)
        self.are_none(Rising(1), sample, [("above", False, 1), ("above", 0, True)])


class Span(Cases):

    def test_what_is_one(self):
        sample = sample_of([(0, 0), (1, 1), (3, 3)], [(-1, -1), (3, 3), (1, 0)])
        for thing in (("span", 3, [(0, 2), (1, -1)]), ("span", 3, [(0, -4), (1, 2)]), ("span", 4, [(2, 1)]),
                      ("span", 4, [(2, -7)]), ("span", 3, [(0, 4), (2, -1)]), ("span", 4, [(0, 0), (2, 1), (1, 0)]),
                      ("span", 4, [(1, 3), (0, -2)]), ("span", 3, [(1, -1), (0, 2), (2, 0)])):
            self.is_one(Flats(2), sample, thing, True)

    def test_what_is_none(self):
        sample = sample_of([(0, 0), (1, 1), (3, 3)], [(-1, -1), (3, 3), (1, 0), (0, 0)])
        self.are_none(Flats(2), sample, [
            ("span", 3, [(0, 1), (1, -1)]), ("span", 6, [(0, 3), (1, -3)]), ("span", 3, []), ("span", 6, []),
            ("span", 6, [(0, 0)]), ("span", 3, [(0, 1), (0, 1), (1, -1)]), ("span", 5, [(0, 2), (1, -1)]),
            ("span", 3, [(0, 2), (1, True)]), ("span", 3, [(0, 2), (4, -1)]), ("span", 3, [(0, 2), (7, -1)]),
            ("span", 0, [(0, 1)]), ("span", -4, [(0, 2), (1, -1)]), ("span", 7, [(0, 2), (1, -1)]),
            ("span", 3, [(False, 2), (1, -1)]), ("span", 3, [(0, 2), (True, -1)]), ("span", 4, [(2, True)]),
            ("span", 3, [(0, 2, 0), (1, -1)]), ("span", 3, [(0, 2), (1,)]), ("span", 3), ("span", 3, (0, 2)),
            ("span", 3, [(0, 2), (1, -1)], []), ("span", [3], [(0, 2), (1, -1)]), ("span", 3, [(-3, 2), (1, -1)])])

    def test_a_sum_of_0_shows_nothing(self):
        # The weighted sum is the no point times 0 here.
        sample = sample_of([(1, 1), (2, 2), (3, 3)], [(9, 0)])
        self.is_one(Flats(2), sample, ("span", 3, [(0, 1), (1, -2), (2, 1)]), False)


class Turning(Cases):

    def test_what_is_one(self):
        sample = Sample(1, [((entry,), entry % 2 == 0) for entry in (3, 0, 1, 2, 4, 2)] + [((4,), False)])
        self.is_one(Turns(2), sample, ("turns", [1, 2, 3, 0]), True)
        self.is_one(Turns(2), sample, ("turns", [2, 5, 0, 4]), True)
        self.is_one(Turns(3), sample, ("turns", [1, 2, 3, 0, 4]), True)
        self.is_one(Turns(0), sample, ("turns", [1, 2]), True)
        for most in range(7):
            self.is_one(Turns(most), sample, ("turns", [4, 6]), True)
            self.is_one(Turns(most), sample, ("turns", [6, 4]), True)

    def test_what_is_none(self):
        sample = Sample(1, [((entry,), entry % 2 == 0) for entry in (3, 0, 1, 2, 4, 2)] + [((4,), False)])
        self.are_none(Turns(2), sample, [
            ("turns", [0, 3, 2, 1]), ("turns", [1, 2, 3]), ("turns", [1, 2, 3, 0, 4]), ("turns", [1, 2]),
            ("turns", [1, 2, 5, 3]), ("turns", [3, 5]), ("turns", [4, 4]), ("turns", [1, 2, 3, 3]), ("turns", []),
            ("turns", [1, 2, 3, 7]), ("turns", [-6, 2, 3, 0]), ("turns", [1, 2, 3, -7]), ("turns", [1, True, 3, 0]),
            ("turns", [True, 2, 3, 0]), ("turns", [1, 2, 3, False]), ("turns", [[1], 2, 3, 0]), ("turns",),
            ("turns", 1, 2, 3, 0), ("turns", [1, 2, 3, 0], []), ("turns", [1, 3, 4, 5]), ("turns", [4, 6, 4, 6]),
            ("turns", None), ("turn", [1, 2, 3, 0]), ("turns", [1, 2, 4, 6])])
        self.are_none(Turns(0), sample, [("turns", [2, 1]), ("turns", [1, 3]), ("turns", [1]), ("turns", [])])

    def test_turns_of_six(self):
        sample = Sample(1, [((entry,), entry % 2 == 0) for entry in range(8)])
        self.is_one(Turns(6), sample, ("turns", list(range(8))), True)
        self.are_none(Turns(6), sample, [("turns", list(range(7))), ("turns", list(range(8))[::-1])])
        self.assertEqual(certificate(Turns(6), sample), ("turns", list(range(8))))
        self.assertIsNone(certificate(Turns(6), sample, 1))


class PutTogether(Cases):

    def test_not(self):
        # A no example lies below a yes example.
        sample = sample_of([(5,)], [(1,)])
        self.is_one(~Rising(1), sample, ("not", ("above", 1, 0)), True)
        self.is_one(~~~Rising(1), sample, ("not", ("not", ("not", ("above", 1, 0)))), True)
        self.is_one(~~Rising(1), sample.turned(), ("not", ("not", ("above", 1, 0))), True)
        self.is_one(~Rising(1), sample.turned(), ("not", ("above", 1, 0)), False)
        self.are_none(~Rising(1), sample, [("above", 1, 0), ("not", ("above", 0, 1)), ("not",), ("not", None),
                                           ("not", ("not", ("above", 1, 0))), ("not", ("above", 1, 0), 0)])

    def test_neither(self):
        sample = sample_of([(0,), (4,)], [(2,)])
        kind = Rising(1) + Boxes(1)
        one, other = ("above", 0, 2), ("between", 2, [(0, 1)])
        self.is_one(kind, sample, ("neither", one, other), True)
        self.are_none(kind, sample, [("neither", other, one), ("neither", one, one), ("neither", one), one, other,
                                     ("neither", one, other, other), ("neither", one, None), ("both", one, other),
                                     ("neither", ("above", 1, 2), other)])
        self.assertIsNone(certificate(Rising(1) + Flats(1), sample_of([(1,)], [(2,)])))

    def test_trees_for_both(self):
        # One half of a line must leave out both ends, or the other half must: a no example lies in between.
        kind = Halves(1) & Halves(1)
        sample = sample_of([(0,), (4,)], [(2,), (9,)])
        meet = ("meet", [(0, 1), (1, 1)], [(2, 2)])
        self.is_one(kind, sample, ("split", 2, ("one", meet), ("other", meet)), True)
        self.is_one(kind, sample, ("split", 3, ("split", 2, ("one", meet), ("other", meet)),
                                   ("split", 2, ("one", meet), ("other", meet))), True)
        self.are_none(kind, sample, [
            ("one", meet), ("other", meet), meet, ("split", 2, ("other", meet), ("one", meet)),
            ("split", 2, ("one", meet), ("one", meet)), ("split", 2, ("one", meet)), ("split", 2, meet, meet),
            ("split", 2, ("one", meet), ("other", meet), ("one", meet)), ("split", 0, ("one", meet), ("other", meet)),
            ("split", 4, ("one", meet), ("other", meet)), ("split", True, ("one", meet), ("other", meet)),
            ("split", 3, ("one", meet), ("other", meet)), ("split", None, ("one", meet), ("other", meet)),
            ("split", 2, ("split", 2, ("one", meet), ("other", meet)), ("other", meet)),
            ("split", 2, ("one", meet, meet), ("other", meet)), ("split", 2, ("one",), ("other", meet)),
            ("split", [2], ("one", meet), ("other", meet)), ("split", -2, ("one", meet), ("other", meet))])

    def test_no_placed_example_counts_ahead_of_its_split(self):
        sample = sample_of([(0,)], [(0,)])
        kind = Rising(1) & Rising(1)
        self.is_one(kind, sample, ("one", ("above", 0, 1)), False)
        self.is_one(kind, sample, ("split", 1, ("one", ("above", 0, 1)), ("other", ("above", 0, 1))), True)
        self.is_one(kind, sample, ("split", 1, ("one", ("above", 0, 1)), ("one", ("above", 0, 1))), False)

    def test_trees_for_either(self):
        # For | the yes examples are placed, and all no examples count.
        kind = Boxes(1) | Boxes(1)
        sample = Sample(1, [((0,), True), ((2,), True), ((4,), True), ((1,), False), ((3,), False)])
        def between(number, low, high):
            return ("between", number, [(low, high)])
        tree = ("split", 0,
                ("split", 1, ("one", between(3, 0, 1)),
                 ("split", 2, ("one", between(3, 0, 2)), ("other", between(4, 1, 2)))),
                ("split", 1, ("split", 2, ("one", between(4, 1, 2)), ("other", between(3, 0, 2))),
                 ("other", between(3, 0, 1))))
        self.is_one(kind, sample, tree, True)
        self.is_one(Boxes(1) & Boxes(1), sample, tree, False)
        self.are_none(kind, sample, [("split", 3, *tree[2:]), ("split", 1, *tree[2:]), tree[2],
                                     (*tree[:2], tree[3], tree[2])])

    def test_trees_for_either_have_all_no_examples(self):
        sample = sample_of([(0,)], [(0,)])
        kind = Rising(1) | Turns(6)
        tree = ("split", 0, ("one", ("above", 0, 1)), ("other", ("turns", [0, 1])))
        self.is_one(kind, sample, tree, True)
        self.is_one(kind, sample, ("split", 1, *tree[2:]), False)
        self.is_one(Turns(6) | Rising(1), sample, tree, False)
        self.is_one(Rising(1) & Turns(6), sample, tree, False)
        self.is_one(~(Rising(1) & Turns(6)), sample, ("not", tree), False)

    def test_one_within_another(self):
        sample = sample_of([(0,)], [(0,), (9,)])
        inner = Rising(1) | Flats(1)
        kind = Turns(6) & inner
        tree = ("split", 1, ("one", ("turns", [0, 1])),
                ("other", ("split", 0, ("one", ("above", 0, 1)), ("other", ("span", 1, [(0, 1)])))))
        self.is_one(kind, sample, tree, True)
        # The no example at (9,) is not placed, so that it is not active in the inner tree.
        wrong = ("split", 1, ("one", ("turns", [0, 1])),
                 ("other", ("split", 0, ("one", ("above", 0, 2)), ("other", ("span", 1, [(0, 1)])))))
        self.is_one(kind, sample, wrong, False)
        self.is_one(kind, sample, ("split", 2, tree, wrong), True)
        self.is_one(kind, sample, ("split", 2, wrong, tree), False)
        self.is_one(~kind, sample.turned(), ("not", tree), True)
        self.is_one(kind + kind, sample, ("neither", tree, tree), True)


class Wrong(Cases):

    def setUp(self):
        self.kind = Turns(0)
        self.sample = Sample(1, [((0,), True), ((1,), False), ((2,), True), ((3,), False)])
        self.rows = [(0, ("turns", [2, 3])), (1, ("turns", [2, 3]))]
        self.thing = ("wrong", ("turns", [0, 1]), self.rows)

    def test_what_is_one(self):
        self.is_one(self.kind, self.sample, self.thing, True, 1)
        other = [self.rows[0], (1, ("turns", [0, 3]))]
        self.is_one(self.kind, self.sample, ("wrong", ("turns", [0, 1]), other), True, 1)
        self.assertIsNone(certificate(self.kind, self.sample, 2))
        self.assertIs(is_certificate(self.kind, self.sample, certificate(self.kind, self.sample, 1), 1), True)

    def test_what_is_none(self):
        plain, (first, second) = ("turns", [0, 1]), self.rows
        self.is_one(self.kind, self.sample, self.thing, False, 0)
        self.is_one(self.kind, self.sample, self.thing, False, 2)
        self.are_none(self.kind, self.sample, [
            plain, ("wrong", plain), ("wrong", plain, []), ("wrong", plain, [first]), ("wrong", plain, [second]),
            ("wrong", plain, [second, first]), ("wrong", plain, [first, first]),
            ("wrong", plain, [first, second, second]), ("wrong", plain, [first, second, (2, plain)]),
            ("wrong", plain, [first, (2, plain)]),
            ("wrong", plain, [(False, first[1]), second]), ("wrong", plain, [first, (True, second[1])]),
            ("wrong", plain, [(0, plain), second]), ("wrong", plain, [first, (1, plain)]),
            ("wrong", plain, [(0,), second]), ("wrong", plain, [(0, first[1], 0), second]), ("wrong", plain, [0, 1]),
            ("wrong", plain, None), ("wrong", None, []), ("wrong", ("turns", [0, 2]), [first, second]),
            ("wrong", plain, [first, second], []), ("wrong", plain, [(0, self.thing), second]),
            ("right", plain, self.rows),
            ("wrong", ("wrong", plain, self.rows), self.rows), ("wrong", plain, {0: first[1], 1: second[1]}),
            ("wrong", plain, [(0.5, first[1]), second]), ("wrong", plain, [(None, first[1]), second])], 1)

    def test_numbers_stay_as_they_are(self):
        # With the first example not active any more the others are not numbered anew.
        for again in (("turns", [1, 2]), ("turns", [0, 1])):
            self.is_one(self.kind, self.sample, ("wrong", ("turns", [0, 1]), [(0, again), (1, again)]), False, 1)

    def test_examples_of_given_have_no_rows(self):
        sample, given = Sample(1, [((0,), True), ((5,), True)]), Sample(1, [((0,), False), ((9,), False)])
        row = [(0, ("turns", [1, 3]))]
        self.is_one(Turns(0), sample, ("wrong", ("turns", [0, 2]), row), True, 1, given)
        self.are_none(Turns(0), sample, [
            ("wrong", ("turns", [0, 2]), [*row, (2, ("turns", [0, 3]))]), ("wrong", ("turns", [0, 2]), []),
            ("wrong", ("turns", [0, 2]), [(2, ("turns", [0, 3]))]),
            ("wrong", ("turns", [0, 2]), [(0, ("turns", [0, 3]))])], 1, given)
        self.is_one(Turns(0), sample, ("turns", [0, 2]), True, 0, given)
        self.is_one(Turns(0), sample, ("turns", [0, 2]), False, 0)
        self.is_one(Turns(0), sample, ("turns", [0, 2]), False, 0, Sample(1, [((0,), True)]))

    def test_no_row_at_all(self):
        given = Sample(1, [((0,), False), ((9,), True)])
        for lies in (1, 2, 3):
            for sample in (Sample(1), Sample(1, [((0,), True)])):
                at = len(sample)
                self.is_one(Turns(0), sample, ("wrong", ("turns", [at, at + 1]), []), True, lies, given)
                self.is_one(Turns(0), sample, ("turns", [at, at + 1]), False, lies, given)

    def test_numbers_with_weight_0_and_in_splits_have_rows(self):
        sample = Sample(1, [((0,), True), ((0,), False), ((1,), True), ((0,), True), ((0,), False)])
        row = ("span", 4, [(3, 1)])
        self.is_one(Flats(1), sample, ("wrong", ("span", 1, [(0, 1)]), [(0, row), (1, row)]), True, 1)
        self.is_one(Flats(1), sample, ("wrong", ("span", 1, [(0, 1), (2, 0)]), [(0, row), (1, row), (2, row)]), True, 1)
        self.is_one(Flats(1), sample, ("wrong", ("span", 1, [(0, 1), (2, 0)]), [(0, row), (1, row)]), False, 1)
        kind = Rising(1) & Turns(6)
        def tree(yes, no):
            return ("split", no, ("one", ("above", yes, no)), ("other", ("turns", [yes, no])))
        inner = tree(3, 4)
        both = ("split", 4, tree(0, 1), tree(0, 1))
        self.is_one(kind, sample, ("wrong", tree(0, 1), [(0, inner), (1, inner)]), True, 1)
        self.is_one(kind, sample, ("wrong", both, [(0, inner), (1, inner), (4, tree(0, 1))]), True, 1)
        self.is_one(kind, sample, ("wrong", both, [(0, inner), (1, inner)]), False, 1)

    def test_rows_for_both_certificates_of_a_sum(self):
        kind = Rising(1) + Turns(0)
        sample = Sample(1, [((0,), True), ((1,), False), ((4,), False), ((5,), True)] * 2)
        def plain(yes, no, one, other):
            return ("neither", ("above", yes, no), ("turns", [one, other]))
        inner = plain(4, 5, 6, 7)
        self.is_one(kind, sample, inner, True)
        rows = [(number, inner) for number in range(4)]
        self.is_one(kind, sample, ("wrong", plain(0, 1, 2, 3), rows), True, 1)
        for at in range(4):
            self.is_one(kind, sample, ("wrong", plain(0, 1, 2, 3), rows[:at] + rows[at + 1:]), False, 1)

    def test_rows_for_both_trees_of_a_split(self):
        kind = Rising(1) & Rising(1)
        sample = Sample(1, [((0,), True), ((1,), True), ((2,), False), ((3,), False)] * 2)
        def tree(one, other, no):
            return ("split", no, ("one", ("above", one, no)), ("other", ("above", other, no)))
        inner = tree(4, 5, 7)
        self.is_one(kind, sample, inner, True)
        rows = [(number, inner) for number in range(4)]
        for numbers, thing in (((0, 1, 2), tree(0, 1, 2)), ((0, 1, 2), tree(1, 0, 2)), ((0, 2), tree(0, 0, 2)),
                               ((0, 1, 2, 3), ("split", 3, tree(0, 1, 2), ("split", 2, ("one", ("above", 0, 2)),
                                                                          ("other", ("above", 1, 2)))))):
            self.is_one(kind, sample, ("wrong", thing, [rows[number] for number in numbers]), True, 1)
            for left_out in numbers:
                fewer = [rows[number] for number in numbers if number != left_out]
                self.is_one(kind, sample, ("wrong", thing, fewer), False, 1)

    def test_rows_for_each_number_of_a_plain_certificate(self):
        line = Sample(1, [((0,), True), ((1,), False), ((2,), True), ((3,), False), ((9,), True), ((9,), False)])
        for kind, sample, inner, thing, numbers in (
                (Halves(1), sample_of([(0,), (4,), (1,)], [(2,), (3,), (1,)]), ("meet", [(2, 1)], [(5, 1)]),
                 ("meet", [(0, 3), (1, 5)], [(3, 4), (4, 4)]), [0, 1, 3, 4]),
                (Boxes(2), sample_of([(0, 9), (9, 0), (5, 5)], [(4, 4), (5, 5)]), ("between", 4, [(2, 2), (2, 2)]),
                 ("between", 3, [(0, 1), (1, 0)]), [0, 1, 3]),
                (Rising(1), sample_of([(0,), (1,)], [(1,), (1,)]), ("above", 1, 3), ("above", 0, 2), [0, 2]),
                (Flats(1), sample_of([(0,), (2,), (5,)], [(8,), (5,)]), ("span", 4, [(2, 1)]),
                 ("span", 3, [(0, -3), (1, 4)]), [0, 1, 3]),
                (Turns(2), line, ("turns", [4, 5]), ("turns", [0, 1, 2, 3]), [0, 1, 2, 3])):
            self.is_one(kind, sample, inner, True)
            self.is_one(kind, sample, thing, True)
            rows = [(number, inner) for number in numbers]
            self.is_one(kind, sample, ("wrong", thing, rows), True, 1)
            for at in range(len(rows)):
                self.is_one(kind, sample, ("wrong", thing, rows[:at] + rows[at + 1:]), False, 1)

    def test_many_lies(self):
        pairs = [((0,), True), ((0,), False)] * 4
        sample = Sample(1, pairs)
        for kind in (Halves(1), Boxes(1), Rising(1), Flats(1), Turns(6)):
            self.assertIsNone(certificate(kind, sample, 4))
            found = certificate(kind, sample, 3)
            self.is_one(kind, sample, found, True, 3)
            for path, thing in changed_at_each_place(found[2][0][1][2][1], [None]):
                broken = copy.deepcopy(as_lists(found))
                broken[2][0][1][2][1] = thing
                self.assertIs(is_certificate(kind, sample, broken, 3), False, path)


class AnyObjects(unittest.TestCase):

    def things(self):
        words = ["meet", "between", "above", "span", "turns", "not", "neither", "one", "other", "split", "wrong"]
        forms = [form for word in words for form in (word, (word,), (word, word), (word, 9, 9), (word, [], []))]
        return [*any_objects(), *forms, 0, 1, -1, 10 ** 20, (Sample(1), 1)]

    def test_at_the_top(self):
        for spec, places, pairs, _ in oracle.cases(31, 60, 6):
            kind, sample = oracle.built(spec), Sample(places, pairs)
            for thing in self.things():
                for lies in (0, 1, 2):
                    with self.subTest(spec=spec, thing=thing):
                        self.assertIs(is_certificate(kind, sample, thing, lies), False)

    def test_at_each_place(self):
        sample = Sample(1, [((0,), True), ((0,), False), ((4,), True), ((4,), False), ((2,), False), ((2,), True)])
        others = ["no", None, {0: 1}, Sample(1), [], {}, True, False]
        for kind in (Halves(1), Boxes(1), Rising(1), Flats(1), Turns(2), ~Halves(1), Rising(1) & Flats(1),
                     Boxes(1) | Turns(0), Turns(1) + ~Boxes(1), ~(Rising(1) & (Flats(1) | Halves(1)))):
            for lies in (0, 1):
                for path, thing in changed_at_each_place(certificate(kind, sample, lies), others):
                    with self.subTest(kind=kind.text(), thing=thing, path=path):
                        self.assertIs(is_certificate(kind, sample, thing, lies), False)

    def test_what_is_one_shows_the_cost(self):
        chance = random.Random(33)
        for at, (spec, places, pairs, _) in enumerate(oracle.cases(32, 250, 5)):
            kind, sample = oracle.built(spec), Sample(places, pairs)
            wrong = oracle.cost(spec, pairs)
            for lies in range(wrong):
                found = certificate(kind, sample, lies)
                for _, thing in chance.sample(changed_at_each_place(found, [0, 1, 2, 3, 4, -1, 5]), 7):
                    for other in range(3):
                        told = is_certificate(kind, sample, thing, other)
                        self.assertIn(told, (True, False))
                        self.assertTrue(not told or wrong > other, (spec, pairs, thing))


class Errors(unittest.TestCase):

    def test_unlike_places_ahead_of_all_else(self):
        good, other = Sample(2), Sample(1)
        for lies in (0, -1, None, True):
            for kind, sample, given in ((Halves(2), other, None), (Turns(0), good, None), (~Boxes(2), good, other),
                                        (Boxes(2) & Flats(2), good, Sample(3)), (Halves(2), other, other),
                                        (Halves(2), other, good)):
                with self.assertRaises(UnlikePlaces):
                    certificate(kind, sample, lies, given=given)
                with self.assertRaises(UnlikePlaces):
                    is_certificate(kind, sample, None, lies, given=given)

    def test_bad_lies_keeps_the_very_object(self):
        sample = Sample(1, [((0,), True)])
        for thing in [*any_objects(), -1, -10 ** 20]:
            with self.subTest(thing=thing):
                with self.assertRaises(BadLies) as caught:
                    certificate(Halves(1), sample, thing)
                self.assertIs(caught.exception.lies, thing)
                with self.assertRaises(BadLies) as caught:
                    is_certificate(Halves(1), sample, None, lies=thing, given=Sample(1))
                self.assertIs(caught.exception.lies, thing)
        self.assertEqual(sample.examples(), [((0,), True)])


if __name__ == "__main__":
    unittest.main()

"""Points 9, 10, 11, 12 and, of 40, the texts of kinds."""

import copy
import inspect
import itertools
import random
import unittest

import oracle
from objects import any_objects, as_lists, changed_at_each_place, mixed, shape
from toldenough import kinds
from toldenough.errors import BadMost, BadPlaces, UnlikePlaces
from toldenough.fitting import best_rule, cost
from toldenough.kinds import Boxes, Flats, Halves, Rising, Turns
from toldenough.parts import conflicts
from toldenough.rules import says
from toldenough.samples import Sample

PLACED = (Halves, Boxes, Rising, Flats)
BIG = 10 ** 15 - 1


def plain_kinds():
    return [made(places) for made in PLACED for places in (1, 2, 3)] + [Turns(most) for most in range(7)]


def some_kinds():
    """Return kinds no two of which are equal."""
    one = plain_kinds()
    more = [~kind for kind in one] + [~~kind for kind in one]
    a, b, c = Halves(1), Turns(2), Boxes(1)
    for put in (lambda x, y: x & y, lambda x, y: x | y, lambda x, y: x + y):
        more += [put(a, b), put(b, a), put(a, a), ~put(a, b), put(~a, b), put(a, ~b),
                 put(put(a, b), c), put(a, put(b, c)), put(a & b, a | b), put(a + b, ~(a & c))]
    return one + more


class Interface(unittest.TestCase):

    def test_the_methods_stand_in_the_classes_themselves(self):
        for made in (*PLACED, Turns):
            self.assertEqual(made.__module__, "toldenough.kinds")
            for name in ("has", "reach", "text", "__invert__", "__and__", "__or__", "__add__", "__eq__"):
                with self.subTest(made=made, name=name):
                    self.assertIn(name, vars(made))

    def test_parameters_have_the_listed_names(self):
        for made in PLACED:
            self.assertEqual(list(inspect.signature(made).parameters), ["places"])
            self.assertEqual(made(places=2), made(2))
        self.assertEqual(list(inspect.signature(Turns).parameters), ["most"])
        self.assertEqual(Turns(most=2), Turns(2))
        for made in (*PLACED, Turns):
            self.assertEqual(list(inspect.signature(made.has).parameters), ["self", "thing"])
            self.assertEqual(list(inspect.signature(made.reach).parameters), ["self"])
            self.assertEqual(list(inspect.signature(made.text).parameters), ["self"])
        self.assertIs((Halves(1) & Boxes(1)).has(thing=5), False)
        self.assertIs((~Halves(1)).has(thing=("not", ("half", (1,), 0))), True)


class Making(unittest.TestCase):

    def test_places(self):
        for made in PLACED:
            for places in (1, 2, 3):
                self.assertEqual(shape(made(places).places), shape(places))
        for most in range(7):
            self.assertEqual(shape(Turns(most).places), shape(1))

    def test_bad_places_keeps_the_very_object(self):
        for made in PLACED:
            for thing in [*any_objects(), 0, 4, -1, BIG]:
                with self.subTest(made=made, thing=thing):
                    with self.assertRaises(BadPlaces) as caught:
                        made(thing)
                    self.assertIs(caught.exception.places, thing)

    def test_bad_most_keeps_the_very_object(self):
        for thing in [*any_objects(), -1, 7, BIG]:
            with self.subTest(thing=thing):
                with self.assertRaises(BadMost) as caught:
                    Turns(thing)
                self.assertIs(caught.exception.most, thing)


class PutTogether(unittest.TestCase):

    def test_places_of_kinds_put_together(self):
        for places in (1, 2, 3):
            for one, other in itertools.product(PLACED, repeat=2):
                a, b = one(places), other(places)
                for kind in (~a, a & b, a | b, a + b, ~(a & b), (a | b) + ~a, ~~~(a + (b & a))):
                    self.assertEqual(shape(kind.places), shape(places))
        self.assertEqual((Turns(0) & Halves(1)).places, 1)

    def test_unlike_places(self):
        groups = [[made(places) for made in PLACED] for places in (1, 2, 3)]
        groups[0] += [Turns(2), ~Turns(0), Turns(1) & Halves(1)]
        groups[1] += [Halves(2) | ~Boxes(2)]
        for ours, theirs in itertools.permutations(groups, 2):
            for one, other in itertools.product(ours, theirs):
                for put in (lambda x, y: x & y, lambda x, y: x | y, lambda x, y: x + y):
                    with self.assertRaises(UnlikePlaces):
                        put(one, other)

    def test_operators_change_nothing(self):
        one, other = ~Halves(2), Boxes(2) + Flats(2)
        before = one.text(), other.text()
        for kind in (one & other, one | other, one + other, ~one, ~other):
            self.assertNotEqual(kind, one)
        with self.assertRaises(UnlikePlaces):
            one & Halves(1)
        self.assertEqual((one.text(), other.text()), before)

    def test_six_plain_kinds_and_many_contraries(self):
        def made():
            kind = Halves(2)
            for other in (Boxes(2), Rising(2), Flats(2), Halves(2), ~Boxes(2)):
                kind = ~~(kind + other)
            return kind
        rule = ("half", (1, 0), 3)
        for _ in range(5):
            rule = ("not", ("not", ("first", rule)))
        self.assertEqual(made().places, 2)
        self.assertIs(made().has(rule), True)
        self.assertIs(made().has(rule[1]), False)
        self.assertIs(made() == made(), True)
        self.assertIs(made() == ~made(), False)


class Equality(unittest.TestCase):

    def test_equal_if_put_together_in_the_same_way(self):
        ours, theirs = some_kinds(), some_kinds()
        for at, one in enumerate(ours):
            for index, other in enumerate(theirs):
                with self.subTest(one=one.text(), other=other.text()):
                    self.assertIs(one == other, at == index)
                    self.assertIs(one != other, at != index)

    def test_a_kind_equals_nothing_else(self):
        for kind in (Boxes(1), Turns(1), ~Halves(1), Rising(2) & Flats(2)):
            for thing in [*any_objects(), 1, kind.text(), (kind,), [kind], Sample(1)]:
                with self.subTest(kind=kind.text(), thing=thing):
                    self.assertIs(kind == thing, False)
                    self.assertIs(kind != thing, True)
                    self.assertIs(thing == kind, False)


GOOD = [
    (Halves(1), [("half", (0,), 0), ("half", (-5,), BIG)]),
    (Halves(3), [("half", (0, 0, 0), -1), ("half", (1, -BIG ** 3, 2), 0)]),
    (Boxes(1), [("box", ((None, None),)), ("box", ((3, 1),)), ("box", ((None, -2),))]),
    (Boxes(3), [("box", ((0, 1), (None, 5), (-BIG, None)))]),
    (Rising(1), [("rise", ()), ("rise", ((None,),)), ("rise", ((1,), (0,), (1,)))]),
    (Rising(2), [("rise", ((None, 3), (4, None), (BIG, -BIG))), ("rise", ())]),
    (Flats(1), [("flat", ()), ("flat", ((5,),)), ("flat", ((5,), (5,), (0,)))]),
    (Flats(2), [("flat", ((1, 2), (2, 4), (3, 6), (0, -BIG)))]),
    (Turns(0), [("turns", True, ()), ("turns", False, ())]),
    (Turns(2), [("turns", False, (-1, 0)), ("turns", True, (7,)), ("turns", True, ())]),
    (Turns(6), [("turns", False, (-BIG, -2, -1, 0, 1, BIG))]),
    (~Halves(1), [("not", ("half", (2,), 3))]),
    (~~Turns(1), [("not", ("not", ("turns", True, (0,))))]),
    (Halves(1) & Turns(1), [("both", ("half", (2,), 3), ("turns", True, (0,)))]),
    (Halves(1) | Turns(1), [("either", ("half", (2,), 3), ("turns", True, (0,)))]),
    (Halves(1) + Turns(1), [("first", ("half", (2,), 3)), ("second", ("turns", True, (0,)))]),
    (~(Boxes(1) + (Flats(1) & ~Rising(1))),
     [("not", ("first", ("box", ((0, 0),)))),
      ("not", ("second", ("both", ("flat", ((1,),)), ("not", ("rise", ((1,),))))))]),
]

BAD = [
    (Halves(1), [("half", (0,)), ("half", (0,), 0, 0), ("half", (0, 0), 0), ("half", (), 0), ("half", (None,), 0),
                 ("half", (0,), None), ("half", (0,), True), ("half", (False,), 0), ("half", 0, 0), ("halves", (0,), 0),
                 ("half", ((0,),), 0), ("box", ((0, 0),)), ("not", ("half", (0,), 0)), "half", ("half",)]),
    (Boxes(1), [("box", ((0,),)), ("box", ((0, 1, 2),)), ("box", (0, 1)), ("box", ()), ("box", ((0, 1), (0, 1))),
                ("box", ((False, 1),)), ("box", ((0, "1"),)), ("box", None), ("box",), ("box", ((0, 1),), 0),
                ("rise", ((0,),)), ("box", (None,)), ("box", ([],))]),
    (Rising(2), [("rise", ((0,),)), ("rise", ((0, 1, 2),)), ("rise", (0, 1)), ("rise", ((0, True),)), ("rise", None),
                 ("rise",), ("rise", (), ()), ("rise", ((0, 1), None)), ("rise", {}), ("flat", ((0, 1),))]),
    (Flats(2), [("flat", ((0, None),)), ("flat", ((0,),)), ("flat", ((0, 1, 2),)), ("flat", ((0, 1), (2,))),
                ("flat", ((True, 1),)), ("flat", None), ("flat",), ("flat", (), ()), ("rise", ())]),
    (Turns(0), [("turns", True, (0,)), ("turns", True), ("turns", 1, ()), ("turns", None, ()), ("turns", True, None)]),
    (Turns(2), [("turns", False, (1, 0)), ("turns", False, (0, 0)), ("turns", True, (0, 1, 2)), ("turns", 0, (0,)),
                ("turns", True, (True,)), ("turns", True, (None, 1)), ("turns", True, 3), ("turns", (), True),
                ("turns", True, (0, "1")), ("turns", True, ((0,), (1,)))]),
    (~Halves(1), [("half", (2,), 3), ("not", ("not", ("half", (2,), 3))), ("not",), ("not", ("half", (2,), 3), 1),
                  ("not", ("box", ((0, 1),)))]),
    (Halves(1) & Turns(1), [("both", ("turns", True, (0,)), ("half", (2,), 3)), ("both", ("half", (2,), 3)),
                            ("either", ("half", (2,), 3), ("turns", True, (0,))), ("half", (2,), 3),
                            ("both", ("half", (2,), 3), ("turns", True, (0, 1))), ("first", ("half", (2,), 3))]),
    (Halves(1) | Turns(1), [("both", ("half", (2,), 3), ("turns", True, (0,))),
                            ("either", ("half", (2,), 3), ("turns", True, (0,)), ())]),
    (Halves(1) + Turns(1), [("second", ("half", (2,), 3)), ("first", ("turns", True, (0,))), ("first",),
                            ("first", ("half", (2,), 3), ("turns", True, (0,))), ("any", ("half", (2,), 3)),
                            ("half", (2,), 3)]),
]


def part_at(thing, path):
    for at in path:
        thing = thing[at]
    return thing


class Has(unittest.TestCase):

    def test_rules_of_the_kind(self):
        for kind, rules in GOOD:
            for rule in rules:
                for form in (rule, as_lists(rule), mixed(rule), mixed([rule])[0]):
                    with self.subTest(kind=kind.text(), rule=form):
                        self.assertIs(kind.has(form), True)

    def test_what_is_no_rule_of_the_kind(self):
        for kind, things in BAD:
            for thing in things:
                for form in (thing, as_lists(thing)):
                    with self.subTest(kind=kind.text(), thing=form):
                        self.assertIs(kind.has(form), False)

    def test_any_objects(self):
        for kind in some_kinds():
            for thing in [*any_objects(), 0, 1, kind, kind.text()]:
                with self.subTest(kind=kind.text(), thing=thing):
                    self.assertIs(kind.has(thing), False)

    def test_any_objects_at_each_place(self):
        for kind, rules in GOOD:
            for rule in rules:
                for path, thing in changed_at_each_place(rule, ["no", {0: 1}, Sample(1), Halves(1), {}]):
                    with self.subTest(kind=kind.text(), thing=thing, path=path):
                        self.assertIs(kind.has(thing), False)

    def test_a_truth_value_is_no_integer_and_an_integer_no_label(self):
        for kind, rules in GOOD:
            for rule in rules:
                for path, thing in changed_at_each_place(rule, [True]):
                    with self.subTest(kind=kind.text(), thing=thing):
                        self.assertIs(kind.has(thing), isinstance(part_at(rule, path), bool))
                for path, thing in changed_at_each_place(rule, [1]):
                    if isinstance(part_at(rule, path), bool):
                        with self.subTest(kind=kind.text(), thing=thing):
                            self.assertIs(kind.has(thing), False)

    def test_the_places_count(self):
        for made, rule in ((Halves, lambda d: ("half", (1,) * d, 0)), (Boxes, lambda d: ("box", ((0, 1),) * d)),
                           (Rising, lambda d: ("rise", ((0,) * d,))), (Flats, lambda d: ("flat", ((0,) * d,)))):
            for ours, theirs in itertools.product((1, 2, 3), repeat=2):
                self.assertIs(made(ours).has(rule(theirs)), ours == theirs)

    def test_arguments_are_not_changed(self):
        for kind, rules in GOOD:
            for rule in rules:
                thing = as_lists(rule)
                before = copy.deepcopy(thing)
                kind.has(thing)
                self.assertEqual(shape(thing), shape(before))

    def test_every_kind_has_a_rule_for_each_label_of_a_point(self):
        chance = random.Random(11)
        for kind in some_kinds():
            point = oracle.random_point(chance, kind.places, 99)
            for label in (True, False):
                sample = Sample(kind.places, [(point, label)])
                self.assertEqual(cost(kind, sample), 0)
                rule = best_rule(kind, sample)
                self.assertIs(kind.has(rule), True)
                self.assertIs(says(rule, point), label)


class Reach(unittest.TestCase):

    def test_plain_kinds(self):
        for places in (1, 2, 3):
            self.assertEqual(shape(Halves(places).reach()), shape(places + 2))
            self.assertEqual(shape(Flats(places).reach()), shape(places + 2))
            self.assertEqual(shape(Boxes(places).reach()), shape({1: 3, 2: 3, 3: 4}[places]))
            self.assertEqual(shape(Rising(places).reach()), shape(2))
        for most in range(7):
            self.assertEqual(shape(Turns(most).reach()), shape(most + 2))

    def test_kinds_put_together(self):
        self.assertEqual((~~~Halves(3)).reach(), 5)
        self.assertEqual((Halves(2) + Rising(2)).reach(), 6)
        self.assertEqual((~(Halves(1) + ~Turns(6)) + Boxes(1)).reach(), 14)
        both, either = Halves(1) & Boxes(1), Halves(1) | Boxes(1)
        for kind in (both, either, ~both, ~~either, both + Turns(1), Turns(1) + ~either, both & either,
                     Turns(0) | (Turns(0) + Turns(0)), ~(both + Turns(1)) + Turns(2), both + either):
            self.assertIsNone(kind.reach())

    def test_no_conflict_has_more_examples(self):
        for spec, places, pairs, _ in oracle.cases(5, 150, 7):
            kind = oracle.built(spec)
            if kind.reach() is not None:
                for part in conflicts(kind, Sample(places, pairs)):
                    self.assertLessEqual(len(part), kind.reach())

    def test_some_conflicts_have_so_many(self):
        triangle = [((0, 0), True), ((5, 0), False), ((-4, 3), False), ((-4, -3), False)]
        self.assertEqual(conflicts(Halves(2), Sample(2, triangle)), [(0, 1, 2, 3)])
        box = [((0, 0, 0), False), ((9, -1, -2), True), ((-1, 9, -3), True), ((-5, -5, 9), True)]
        self.assertEqual(conflicts(Boxes(3), Sample(3, box)), [(0, 1, 2, 3)])
        line = [((entry,), entry % 2 == 0) for entry in range(8)]
        self.assertEqual(conflicts(Turns(6), Sample(1, line)), [tuple(range(8))])
        self.assertEqual(conflicts(Flats(3), Sample(3, [((0, 0, 0), True), ((1, 0, 0), True), ((0, 1, 0), True),
                                                        ((0, 0, 1), True), ((5, 6, 7), False)])), [(0, 1, 2, 3, 4)])


class Texts(unittest.TestCase):

    def test_plain_kinds(self):
        for places in (1, 2, 3):
            for made, word in zip(PLACED, ("halves", "boxes", "rising", "flats")):
                self.assertEqual(made(places).text(), f"{word} {places}")
        for most in range(7):
            self.assertEqual(Turns(most).text(), f"turns {most}")

    def test_kinds_put_together(self):
        a, b, c = Halves(1), Turns(4), ~Boxes(1)
        self.assertEqual((~a).text(), "not halves 1")
        self.assertEqual((~~a).text(), "not not halves 1")
        self.assertEqual((a & b).text(), "both halves 1 turns 4")
        self.assertEqual((b | a).text(), "either turns 4 halves 1")
        self.assertEqual((a + b).text(), "any halves 1 turns 4")
        self.assertEqual((~(a & (b | c)) + a).text(), "any not both halves 1 either turns 4 not boxes 1 halves 1")
        self.assertEqual(((a + b) & c).text(), "both any halves 1 turns 4 not boxes 1")

    def test_unlike_kinds_have_unlike_texts(self):
        found = [kind.text() for kind in some_kinds()]
        self.assertEqual(len(set(found)), len(found))


class Files(unittest.TestCase):

    def test_kinds_defines_the_classes_of_the_interface(self):
        for name in ("Halves", "Boxes", "Rising", "Flats", "Turns"):
            self.assertEqual(getattr(kinds, name).__module__, "toldenough.kinds")


if __name__ == "__main__":
    unittest.main()

"""Point 44: the interface, its names, parameters and files; points 42 and 43 whole; of 3 what it says of all calls."""

import ast
import copy
import importlib
import inspect
import unittest
from pathlib import Path

import toldenough
from objects import shape
from toldenough.certificates import certificate, is_certificate
from toldenough.fitting import cost, costs, settled
from toldenough.kinds import Boxes, Halves
from toldenough.lines import line
from toldenough.parts import conflicts, reasons, repairs
from toldenough.rules import says
from toldenough.samples import Sample

FUNCTIONS = {
    "rules": ["says(rule, point)"],
    "fitting": ["cost(kind, sample, *, given=None)", "best_rule(kind, sample, *, given=None)",
                "costs(kind, sample, point)", "strength(kind, sample, point)",
                "settled(kind, sample, point, *, lies=0)"],
    "certificates": ["certificate(kind, sample, lies=0, *, given=None)",
                     "is_certificate(kind, sample, thing, lies=0, *, given=None)"],
    "parts": ["conflicts(kind, sample)", "repairs(kind, sample)", "reasons(kind, sample, point)", "idle(kind, sample)",
              "cores(kind, sample)"],
    "comparing": ["says_all(kind, one, other)", "parted(kind, one, other)", "alike(kind, one, other)"],
    "lines": ["line(kind, sample, point, step, *, lies=0)"],
    "labels": ["labelings(kind, points)", "shattered(kind, points)", "dimension(kind, points)"],
    "teaching": ["teaching(kind, points, labels)", "teaching_number(kind, points)"],
    "asking": ["asks(kind, points, *, prices=None)", "ask_tree(kind, points, *, prices=None)"],
    "guessing": ["mistakes(kind, points)", "mistake_tree(kind, points)"],
    "texts": ["read_kind(text)", "read_sample(text)"],
}
KIND = ["has(thing)", "reach()", "text()", "__invert__()", "__and__(other)", "__or__(other)", "__add__(other)",
        "__eq__(other)"]
CLASSES = {
    "samples": {"Sample": ["__init__(places, examples=())", "examples()", "part(indexes)", "without(indexes)",
                           "turned()", "text()", "__len__()", "__contains__(thing)", "__iter__()", "__add__(other)",
                           "__eq__(other)"]},
    "kinds": {"Halves": ["__init__(places)", *KIND], "Boxes": ["__init__(places)", *KIND],
              "Rising": ["__init__(places)", *KIND], "Flats": ["__init__(places)", *KIND],
              "Turns": ["__init__(most)", *KIND]},
    "guessing": {"Guesser": ["__init__(kind, points)", "guess(index)", "tell(index, label)", "wrong()", "left()"]},
    "desks": {"Desk": ["__init__(kind, *, lies=0)", "names()", "sample()", "put(name, point, label)", "drop(name)",
                       "allow(lies)", "watch(name, point)", "unwatch(name)", "state(name)", "states()", "undo()",
                       "again()", "would(deeds)", "trial(work)", "__len__()", "__contains__(name)"]},
}


def module_of(name):
    return importlib.import_module(f"toldenough.{name}")


def defined_in(name, node_class):
    tree = ast.parse((Path(toldenough.__file__).parent / f"{name}.py").read_text(encoding="ascii"))
    return [node.name for node in tree.body if isinstance(node, node_class)]


class Interface(unittest.TestCase):

    def test_functions(self):
        for name, functions in FUNCTIONS.items():
            for wanted in functions:
                with self.subTest(module=name, function=wanted):
                    function = wanted.partition("(")[0]
                    self.assertIn(function, defined_in(name, ast.FunctionDef))
                    self.assertEqual(function + str(inspect.signature(getattr(module_of(name), function))), wanted)

    def test_classes_and_their_methods(self):
        for name, classes in CLASSES.items():
            for one, methods in classes.items():
                self.assertIn(one, defined_in(name, ast.ClassDef))
                for wanted in methods:
                    with self.subTest(module=name, one=one, method=wanted):
                        method = wanted.partition("(")[0]
                        found = str(inspect.signature(vars(getattr(module_of(name), one))[method]))
                        found = found.replace("(self, ", "(").replace("(self", "(")
                        self.assertEqual(method + found, wanted)

    def test_those_behind_a_star_by_name_alone(self):
        for name, functions in FUNCTIONS.items():
            for wanted in functions:
                if "*" in wanted:
                    function = getattr(module_of(name), wanted.partition("(")[0])
                    parameters = inspect.signature(function).parameters.values()
                    plain = [one for one in parameters if one.kind == one.POSITIONAL_OR_KEYWORD]
                    with self.assertRaises(TypeError):
                        function(*[None] * (len(plain) + 1))

    def test_unlike_is_the_opposite_of_equal(self):
        things = [Halves(1), Halves(1), Halves(2), ~Halves(1), Sample(1), Sample(1), Sample(2), None, 1, "halves 1"]
        for one in things:
            for other in things:
                self.assertIs(one != other, not one == other)


class Examples(unittest.TestCase):

    def test_42(self):
        kind, sample = Halves(1), Sample(1, [((1,), True), ((4,), False)])
        for entry in range(-20, 20):
            word = "yes" if entry <= 1 else "no" if entry >= 4 else "open"
            self.assertEqual(settled(kind, sample, (entry,)), word)
        self.assertEqual(shape(line(kind, sample, (0,), (1,))),
                         shape([(None, 1, "yes"), (2, 3, "open"), (4, None, "no")]))
        three = sample + Sample(1, [((0,), False)])
        self.assertEqual(shape(conflicts(kind, three)), shape([(0, 1, 2)]))
        self.assertEqual(cost(kind, three), 1)
        self.assertEqual(shape(repairs(kind, three)), shape([(0,), (1,), (2,)]))
        proof = ("meet", [(0, 4)], [(1, 1), (2, 3)])
        self.assertIs(is_certificate(kind, three, proof), True)
        self.assertIs(is_certificate(kind, three, certificate(kind, three)), True)
        self.assertIsNone(certificate(kind, three, 1))

    def test_43(self):
        kind, sample = Boxes(2), Sample(2, [((0, 0), True), ((2, 2), True), ((5, 1), False)])
        self.assertEqual(settled(kind, sample, (1, 2)), "yes")
        self.assertEqual(shape(reasons(kind, sample, (1, 2))), shape([(0, 1)]))
        self.assertEqual(settled(kind, sample, (6, 1)), "no")
        self.assertEqual(shape(costs(kind, sample, (6, 1))), shape((1, 0)))
        self.assertEqual(settled(kind, sample, (4, 9)), "open")
        self.assertEqual(line(kind, sample, (6, 1), (-1, 0)),
                         [(None, 1, "no"), (2, 3, "open"), (4, 6, "yes"), (7, None, "open")])
        self.assertEqual(says(("box", ((0, 6), (0, 2))), (5, 1)), True)


class Returned(unittest.TestCase):

    def test_what_is_returned_is_not_kept(self):
        kind, sample = Halves(1), Sample(1, [((1,), True), ((4,), False), ((0,), False)])
        proof = certificate(kind, sample, 0)
        kept = copy.deepcopy(proof)
        proof[1].clear()
        self.assertEqual(certificate(kind, sample, 0), kept)


if __name__ == "__main__":
    unittest.main()

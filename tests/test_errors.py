"""Points 4 and 44: the errors, their attributes and their base classes."""

import ast
import inspect
import unittest
from pathlib import Path

from objects import any_objects
from toldenough import errors
from toldenough.errors import ToldError

WITH_ATTRIBUTE = {
    "BadPlaces": "places",
    "BadExample": "index",
    "BadIndex": "index",
    "BadMost": "most",
    "BadPoint": "point",
    "BadLies": "lies",
    "BadStep": "step",
    "NoLabeling": "labels",
    "BadPrices": "prices",
    "BadLabel": "label",
    "BadName": "name",
    "Held": "name",
    "NotHeld": "name",
    "Watched": "name",
    "NotWatched": "name",
    "BadDeed": "index",
    "BadText": "index",
    "BadLine": "line",
}
WITHOUT_ATTRIBUTE = ["UnlikePlaces", "Unfit", "NoDeed"]


class TheErrors(unittest.TestCase):

    def test_base_class_is_directly_under_value_error(self):
        self.assertEqual(ToldError.__bases__, (ValueError,))
        self.assertIsInstance(ToldError(), ValueError)

    def test_each_error_is_directly_under_the_base_class(self):
        for name in [*WITH_ATTRIBUTE, *WITHOUT_ATTRIBUTE]:
            with self.subTest(name=name):
                self.assertEqual(getattr(errors, name).__bases__, (ToldError,))

    def test_no_other_classes_stand_in_the_file(self):
        tree = ast.parse(Path(errors.__file__).read_text(encoding="ascii"))
        defined = [node.name for node in tree.body if isinstance(node, ast.ClassDef)]
        self.assertEqual(sorted(defined), sorted(["ToldError", *WITH_ATTRIBUTE, *WITHOUT_ATTRIBUTE]))

    def test_parameters_have_the_listed_names(self):
        for name, attribute in WITH_ATTRIBUTE.items():
            with self.subTest(name=name):
                found = list(inspect.signature(getattr(errors, name).__init__).parameters)
                self.assertEqual(found, ["self", attribute])

    def test_attribute_is_the_very_object_by_position(self):
        for name, attribute in WITH_ATTRIBUTE.items():
            for thing in [*any_objects(), 0, -7, 10 ** 15]:
                with self.subTest(name=name, thing=thing):
                    error = getattr(errors, name)(thing)
                    self.assertIs(getattr(error, attribute), thing)

    def test_attribute_is_the_very_object_by_name(self):
        for name, attribute in WITH_ATTRIBUTE.items():
            for thing in [*any_objects(), 0, -7, 10 ** 15]:
                with self.subTest(name=name, thing=thing):
                    error = getattr(errors, name)(**{attribute: thing})
                    self.assertIs(getattr(error, attribute), thing)

    def test_errors_without_attribute_are_made_without_arguments(self):
        for name in WITHOUT_ATTRIBUTE:
            with self.subTest(name=name):
                self.assertIsInstance(getattr(errors, name)(), ToldError)

    def test_each_error_is_caught_by_its_own_name_alone(self):
        for name in WITH_ATTRIBUTE:
            for other in WITH_ATTRIBUTE:
                with self.subTest(name=name, other=other):
                    error = getattr(errors, name)(0)
                    self.assertEqual(isinstance(error, getattr(errors, other)), name == other)

    def test_each_error_can_be_raised_and_shown(self):
        for name in WITH_ATTRIBUTE:
            with self.subTest(name=name):
                with self.assertRaises(ToldError) as caught:
                    raise getattr(errors, name)([1, None])
                self.assertIsInstance(str(caught.exception), str)


if __name__ == "__main__":
    unittest.main()

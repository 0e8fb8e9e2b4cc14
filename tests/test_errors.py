"""Point [1] as to the errors, and the interface of stillmine.errors."""

import unittest

from helper import any_values
from stillmine import errors

ARGUMENTS = {
    "BadRegisters": "value", "BadLines": "value", "BadLine": "position", "BadContent": "value",
    "StillAmid": "content", "Unanswered": "position", "BadAnswer": "value", "BadStop": "value",
    "NoPlace": "place", "BadTrouble": "value", "OtherPlaces": "value", "BadName": "value", "NoFile": "name",
    "Taken": "name", "TooFar": "count", "BadText": "line", "BadBridge": "value",
}


class Errors(unittest.TestCase):
    def test_bases(self):
        self.assertEqual(errors.UpgradeError.__bases__, (ValueError,))
        for name in ARGUMENTS:
            with self.subTest(name):
                self.assertEqual(getattr(errors, name).__bases__, (errors.UpgradeError,))

    def test_nothing_else_is_an_error_of_the_package(self):
        names = [name for name, value in vars(errors).items() if isinstance(value, type)]
        self.assertEqual(sorted(names), sorted(["UpgradeError", *ARGUMENTS]))

    def test_the_very_value_by_place_and_by_name(self):
        for name, argument in ARGUMENTS.items():
            kind = getattr(errors, name)
            for value in any_values():
                with self.subTest(name, value=value):
                    self.assertIs(getattr(kind(value), argument), value)
                    self.assertIs(getattr(kind(**{argument: value}), argument), value)
                    self.assertEqual(list(vars(kind(value))), [argument])

    def test_just_one_argument(self):
        for name in ARGUMENTS:
            kind = getattr(errors, name)
            with self.subTest(name):
                self.assertRaises(TypeError, kind)
                self.assertRaises(TypeError, kind, 1, 2)
                self.assertRaises(TypeError, kind, other=1)

    def test_caught_by_its_bases(self):
        for name in ARGUMENTS:
            for base in (errors.UpgradeError, ValueError):
                with self.subTest(name, base=base):
                    with self.assertRaises(base):
                        raise getattr(errors, name)([1])

    def test_any_error_can_be_shown(self):
        for name in ARGUMENTS:
            for value in any_values():
                self.assertIsInstance(str(getattr(errors, name)(value)), str)

    def test_each_class_has_its_own_beginning(self):
        for name in ARGUMENTS:
            with self.subTest(name):
                self.assertIn("__init__", vars(getattr(errors, name)))
                self.assertEqual(getattr(errors, name).__module__, "stillmine.errors")


if __name__ == "__main__":
    unittest.main()

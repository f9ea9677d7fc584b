"""Tests of the module errors."""

import unittest

from renamesteps import errors
from tests.samples import any_values

FIELDS = {
    "NoScope": "scope", "NoDeclaration": "declaration", "BadName": "name", "BadNaming": "naming",
    "BadProgram": "program", "BadPool": "pool", "BadPlan": "plan", "Unsafe": "index", "Clash": "other",
    "TooFewNames": "needed", "TooMany": "most", "TooLarge": "limit", "OutOfScope": "scope", "MissingUse": "scope",
    "StillUsed": "scope", "NotEmpty": "scope", "NothingToUndo": "count", "BadText": "line", "BadLine": "line",
}


def error_classes():
    return {name: getattr(errors, name) for name in FIELDS}


class ErrorsTest(unittest.TestCase):
    def test_there_are_nineteen_errors_and_their_base(self):
        found = [name for name, value in vars(errors).items() if isinstance(value, type)]
        self.assertEqual(sorted(found), sorted([*FIELDS, "RenameError"]))
        self.assertEqual(len(FIELDS), 19)

    def test_base_classes(self):
        self.assertEqual(errors.RenameError.__bases__, (ValueError,))
        for name, error_class in error_classes().items():
            with self.subTest(name):
                self.assertEqual(error_class.__bases__, (errors.RenameError,))
                self.assertEqual(error_class.__name__, name)

    def test_an_error_is_an_instance_of_no_other_error(self):
        for name, error_class in error_classes().items():
            error = error_class(0)
            self.assertIsInstance(error, errors.RenameError)
            self.assertIsInstance(error, ValueError)
            for other_name, other_class in error_classes().items():
                with self.subTest(name, other=other_name):
                    self.assertEqual(isinstance(error, other_class), name == other_name)

    def test_the_only_field_holds_the_value_given_by_position(self):
        for name, error_class in error_classes().items():
            for value in any_values() + [0, -1, 60, (), ("a", "b")]:
                with self.subTest(name, kind=type(value)):
                    error = error_class(value)
                    self.assertEqual(list(vars(error)), [FIELDS[name]])
                    self.assertIs(getattr(error, FIELDS[name]), value)

    def test_the_only_field_holds_the_value_given_by_its_name(self):
        for name, error_class in error_classes().items():
            for value in any_values() + [0, -1, 60, (), ("a", "b")]:
                with self.subTest(name, kind=type(value)):
                    error = error_class(**{FIELDS[name]: value})
                    self.assertEqual(list(vars(error)), [FIELDS[name]])
                    self.assertIs(getattr(error, FIELDS[name]), value)

    def test_an_error_takes_exactly_one_argument(self):
        for name, error_class in error_classes().items():
            with self.subTest(name):
                self.assertRaises(TypeError, error_class)
                self.assertRaises(TypeError, error_class, 0, 1)
                self.assertRaises(TypeError, error_class, wrong=0)

    def test_an_error_can_be_raised_and_caught_by_each_of_its_classes(self):
        for name, error_class in error_classes().items():
            for caught in (error_class, errors.RenameError, ValueError):
                with self.subTest(name, caught=caught):
                    value = ["x"]
                    with self.assertRaises(caught) as context:
                        raise error_class(value)
                    self.assertIs(getattr(context.exception, FIELDS[name]), value)
                    self.assertEqual(value, ["x"])


if __name__ == "__main__":
    unittest.main()

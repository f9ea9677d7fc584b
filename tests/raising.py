"""A test case that checks errors and the values that they hold."""

import unittest

from renamesteps.errors import RenameError


class RaisingTest(unittest.TestCase):
    def raised_value(self, error, function, *arguments):
        """The value of the only field of the error of this very class that the call raises."""
        with self.assertRaises(RenameError) as context:
            function(*arguments)
        self.assertIs(type(context.exception), error)
        self.assertEqual(len(vars(context.exception)), 1)
        return list(vars(context.exception).values())[0]

    def assert_error(self, error, value, function, *arguments):
        """The call raises this error with the very value, or, if it is an integer, an equal one."""
        with self.subTest(function.__name__, kind=type(value)):
            found = self.raised_value(error, function, *arguments)
            if type(value) is int:
                self.assertEqual((type(found), found), (int, value))
            else:
                self.assertIs(found, value)

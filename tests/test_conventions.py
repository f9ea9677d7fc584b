"""Tests of what holds for all functions: their parameters, unchanged arguments, and the limits."""

import copy
import inspect
import itertools
import unittest

from renamesteps import names, programs
from renamesteps.errors import NoDeclaration, NoScope
from tests.samples import EXAMPLE, any_values

NAMING = ("a", "b", "b", "a")

# Each function with its parameters in the order of the document, arguments, and what it returns.
CALLS = (
    (programs.is_program, {"value": EXAMPLE}, True),
    (programs.home_of, {"program": EXAMPLE, "declaration": 2}, 1),
    (programs.declarations_of, {"program": EXAMPLE, "scope": 0}, (0, 1)),
    (programs.enclosing_scopes, {"program": EXAMPLE, "scope": 2}, (2, 0)),
    (programs.inner_scopes, {"program": EXAMPLE, "scope": 0}, (0, 1, 2)),
    (programs.height_of, {"program": EXAMPLE}, 2),
    (names.is_name, {"value": "abc"}, True),
    (names.is_pool, {"value": ("b", "a")}, True),
    (names.is_naming, {"program": EXAMPLE, "value": NAMING}, True),
    (names.look_up, {"program": EXAMPLE, "naming": NAMING, "scope": 1, "name": "b"}, 2),
)

# Functions and their parameters that accept any value, beside arguments for the other ones.
OPEN_PARAMETERS = (
    (programs.is_program, "value", {}),
    (programs.home_of, "declaration", {"program": EXAMPLE}),
    (programs.declarations_of, "scope", {"program": EXAMPLE}),
    (programs.enclosing_scopes, "scope", {"program": EXAMPLE}),
    (programs.inner_scopes, "scope", {"program": EXAMPLE}),
    (names.is_name, "value", {}),
    (names.is_pool, "value", {}),
    (names.is_naming, "value", {"program": EXAMPLE}),
    (names.look_up, "scope", {"program": EXAMPLE, "naming": NAMING, "name": "a"}),
    (names.look_up, "name", {"program": EXAMPLE, "naming": NAMING, "scope": 1}),
)


def mutable_values():
    """Values that a function could change, and that can be compared afterwards."""
    return [
        [], [1, 2], ["b", "a"], [[-1, 2, [1]]], [list(row) for row in EXAMPLE], {}, {"b": 1, "a": 2}, {0: [1]}, {2, 1},
        bytearray(b"ba"), ([],), (["b", "a"],), ((-1, 1, [0]),), ([-1, 2, [1, 0]],), ("a", ["b"], {"c": []}),
        [[[[{"a": ({1, 2}, [])}]]]],
    ]


class ParametersTest(unittest.TestCase):
    def test_arguments_by_position(self):
        for function, arguments, result in CALLS:
            with self.subTest(function.__name__):
                self.assertEqual(function(*arguments.values()), result)

    def test_arguments_by_name_in_every_order(self):
        for function, arguments, result in CALLS:
            for order in itertools.permutations(arguments):
                with self.subTest(function.__name__, order=order):
                    self.assertEqual(function(**{name: arguments[name] for name in order}), result)

    def test_some_arguments_by_position_and_the_rest_by_name(self):
        for function, arguments, result in CALLS:
            for many in range(len(arguments)):
                first = list(arguments.values())[:many]
                rest = {name: arguments[name] for name in reversed(list(arguments)[many:])}
                with self.subTest(function.__name__, many=many):
                    self.assertEqual(function(*first, **rest), result)

    def test_the_parameters_are_those_of_the_document(self):
        for function, arguments, _ in CALLS:
            with self.subTest(function.__name__):
                self.assertEqual(list(inspect.signature(function).parameters), list(arguments))

    def test_the_kinds_of_the_results(self):
        for function, arguments, result in CALLS:
            with self.subTest(function.__name__):
                self.assertIs(type(function(**arguments)), type(result))

    def test_the_same_call_returns_the_same_value(self):
        for function, arguments, result in CALLS:
            for _ in range(3):
                self.assertEqual(function(**arguments), result)


class UnchangedArgumentsTest(unittest.TestCase):
    def test_arguments_that_are_right(self):
        for function, arguments, _ in CALLS:
            before = copy.deepcopy(arguments)
            function(**arguments)
            self.assertEqual(arguments, before)

    def test_values_of_any_kind(self):
        for function, parameter, others in OPEN_PARAMETERS:
            for value in mutable_values():
                before = copy.deepcopy(value)
                with self.subTest(function.__name__, value=before):
                    try:
                        function(**others, **{parameter: value})
                    except (NoDeclaration, NoScope):
                        pass
                    self.assertEqual(value, before)


class ErrorsTest(unittest.TestCase):
    def test_no_other_errors_for_values_of_any_kind(self):
        expected = {"declaration": NoDeclaration, "scope": NoScope}
        for function, parameter, others in OPEN_PARAMETERS:
            for value in any_values():
                with self.subTest(function.__name__, parameter=parameter, kind=type(value)):
                    if parameter in expected:
                        with self.assertRaises(expected[parameter]) as context:
                            function(**others, **{parameter: value})
                        self.assertIs(type(context.exception), expected[parameter])
                        self.assertIs(vars(context.exception)[parameter], value)
                    else:
                        self.assertIn(function(**others, **{parameter: value}), (False, None))

    def test_no_scope_comes_before_a_name_of_any_kind(self):
        for scope, name in itertools.product(any_values(), any_values()):
            with self.assertRaises(NoScope) as context:
                names.look_up(EXAMPLE, NAMING, scope, name)
            self.assertIs(context.exception.scope, scope)


class LimitsTest(unittest.TestCase):
    def test_functions_raise_nothing_somewhat_beyond_the_limits(self):
        program = tuple((scope - 1, 2, (0,)) for scope in range(50))
        naming = ("abcdefghi",) * 100
        self.assertIs(programs.is_program(program), False)
        self.assertEqual(programs.home_of(program, 99), 49)
        self.assertEqual(programs.declarations_of(program, 49), (98, 99))
        self.assertEqual(programs.enclosing_scopes(program, 49), tuple(range(49, -1, -1)))
        self.assertEqual(programs.inner_scopes(program, 45), (45, 46, 47, 48, 49))
        self.assertEqual(programs.height_of(program), 50)
        self.assertIs(names.is_naming(program, naming), False)
        self.assertIs(names.is_naming(program, ("a",) * 100), True)
        self.assertIsNone(names.look_up(program, naming, 49, "a"))


if __name__ == "__main__":
    unittest.main()

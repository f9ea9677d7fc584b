"""Tests of what holds for all functions: their parameters, unchanged arguments, errors, and the limits."""

import copy
import inspect
import itertools
import unittest

from renamesteps import (
    edits, errors, fewest, groups, names, parts, plans, programs, reading, regions, renames, routes, shortest, validity,
    writing)
from renamesteps.desk import Desk
from renamesteps.errors import (
    BadLine, BadName, BadNaming, BadPlan, BadPool, BadProgram, BadText, NoDeclaration, NoScope, RenameError, TooLarge)
from renamesteps.workspace import Workspace
from tests.samples import EXAMPLE, HUNDRED, any_values

NAMING = ("a", "b", "b", "a")
GOAL = ("a", "c", "c", "a")
POOL = ("a", "b", "c")
TEXT = "let a\nlet b\nuse b\n{\nlet b\nuse a\nuse b\n}\n{\nlet a\nuse a\n}"

# Each function with its parameters in the order of the document, arguments, and what it returns.
# Where the document allows several results, it is the one that this package returns.
CALLS = (
    (programs.is_program, {"value": EXAMPLE}, True),
    (programs.home_of, {"program": EXAMPLE, "declaration": 2}, 1),
    (programs.declarations_of, {"program": EXAMPLE, "scope": 0}, (0, 1)),
    (programs.enclosing_scopes, {"program": EXAMPLE, "scope": 2}, (2, 0)),
    (programs.inner_scopes, {"program": EXAMPLE, "scope": 0}, (0, 1, 2)),
    (programs.height_of, {"program": EXAMPLE}, 2),
    (names.is_name, {"value": "abc"}, True),
    (names.is_pool, {"value": ("b", "a")}, True),
    (names.is_naming, {"program": EXAMPLE, "value": NAMING}, True),
    (names.look_up, {"program": EXAMPLE, "naming": NAMING, "scope": 1, "name": "b"}, 2),
    (validity.find_problems, {"program": EXAMPLE, "naming": ("a", "b", "a", "a")}, (("captured", 1, 0, 2),)),
    (validity.is_valid, {"program": EXAMPLE, "naming": NAMING}, True),
    (regions.region_of, {"program": EXAMPLE, "declaration": 0}, (0, 1)),
    (regions.needed_in, {"program": EXAMPLE, "scope": 1}, (0, 2)),
    (regions.in_conflict, {"program": EXAMPLE, "one": 2, "other": 0}, True),
    (regions.conflicts_of, {"program": EXAMPLE, "declaration": 0}, (1, 2)),
    (regions.all_conflicts, {"program": EXAMPLE}, ((0, 1), (0, 2))),
    (regions.width_of, {"program": EXAMPLE}, 2),
    (regions.widest_scope, {"program": EXAMPLE}, 0),
    (fewest.smallest_naming, {"program": EXAMPLE, "pool": ("c", "a", "b")}, ("c", "a", "a", "c")),
    (fewest.shows_fewest, {"program": EXAMPLE, "naming": NAMING, "scope": 1}, True),
    (renames.blockers, {"program": EXAMPLE, "naming": NAMING, "declaration": 0, "name": "b"}, (1, 2)),
    (renames.free_names, {"program": EXAMPLE, "naming": NAMING, "declaration": 3, "pool": POOL}, ("b", "c")),
    (renames.rename, {"program": EXAMPLE, "naming": NAMING, "declaration": 3, "name": "c"}, ("a", "b", "b", "c")),
    (renames.all_renames, {"program": EXAMPLE, "naming": NAMING, "pool": ("a", "b")}, ((3, "b"),)),
    (groups.groups_of, {"program": EXAMPLE}, ((0, 3), (1, 2))),
    (groups.shows_groups, {"program": EXAMPLE, "value": ((0, 3), (1, 2))}, True),
    (groups.gather, {"program": EXAMPLE, "naming": ("a", "b", "c", "b"), "pool": POOL}, ((3, "a"), (2, "b"))),
    (plans.run_plan, {"program": EXAMPLE, "naming": NAMING, "plan": ((3, "b"),)}, ("a", "b", "b", "b")),
    (plans.shows_plan,
     {"program": EXAMPLE, "start": NAMING, "goal": GOAL, "pool": POOL, "value": ((1, "c"), (2, "c"))}, True),
    (plans.find_plan, {"program": EXAMPLE, "start": NAMING, "goal": GOAL, "pool": POOL}, ((1, "c"), (2, "c"))),
    (plans.plan_to_name,
     {"program": EXAMPLE, "naming": NAMING, "declaration": 0, "name": "c", "pool": POOL}, ((0, "c"),)),
    (parts.full_scopes, {"program": EXAMPLE, "pool": ("a", "b")}, (0, 1)),
    (parts.frozen_declarations, {"program": EXAMPLE, "pool": ("a", "b")}, (0, 1, 2)),
    (parts.parts_of, {"program": EXAMPLE, "pool": POOL}, ((0, 1, 2), (3,))),
    (parts.is_free, {"program": EXAMPLE, "part": (3,), "pool": ("a", "b")}, True),
    (routes.reachable_namings,
     {"program": EXAMPLE, "naming": NAMING, "part": (3,), "pool": ("b", "a"), "most": 2}, (("a",), ("b",))),
    (routes.find_route,
     {"program": EXAMPLE, "start": NAMING, "goal": GOAL, "pool": POOL, "most": 1}, ("plan", ((1, "c"), (2, "c")))),
    (routes.shows_route,
     {"program": EXAMPLE, "start": NAMING, "goal": ("b", "a", "a", "a"), "pool": ("a", "b"),
      "value": ("frozen", 0, 1)}, True),
    (shortest.fewest_renames, {"program": EXAMPLE, "start": NAMING, "goal": GOAL, "pool": POOL, "most": 12}, 2),
    (shortest.shortest_plan,
     {"program": EXAMPLE, "start": NAMING, "goal": GOAL, "pool": POOL, "most": 12}, ((1, "c"), (2, "c"))),
    (edits.add_use, {"program": EXAMPLE, "declaration": 1, "scope": 2}, EXAMPLE[:2] + ((0, 1, (1, 3)),)),
    (edits.remove_use, {"program": EXAMPLE, "declaration": 3, "scope": 2}, EXAMPLE[:2] + ((0, 1, ()),)),
    (edits.add_declaration, {"program": EXAMPLE, "scope": 2}, EXAMPLE[:2] + ((0, 2, (3,)),)),
    (edits.remove_declaration, {"program": ((-1, 2, (1,)),), "declaration": 0}, ((-1, 1, (0,)),)),
    (edits.add_scope, {"program": EXAMPLE, "scope": 0}, EXAMPLE + ((0, 0, ()),)),
    (edits.remove_scope, {"program": EXAMPLE + ((0, 0, ()),), "scope": 3}, EXAMPLE),
    (edits.plan_for_use,
     {"program": EXAMPLE, "naming": NAMING, "declaration": 1, "scope": 1, "pool": POOL}, ((1, "c"),)),
    (writing.write_program, {"program": EXAMPLE, "naming": NAMING}, TEXT),
    (reading.read_program, {"text": TEXT}, (EXAMPLE, NAMING)),
    (reading.same_program, {"one": TEXT, "other": "let a"}, False),
)

# The parameters that are passed by keyword, with their defaults.
BY_KEYWORD = {"most": 2000}

# Functions and their parameters that accept any value, with the error for what is wrong there and its field.
# Functions without an error return False or None.
NO_DECLARATION = (NoDeclaration, "declaration")
NO_SCOPE = (NoScope, "scope")
BAD_NAMING = (BadNaming, "naming")
OPEN_PARAMETERS = (
    (programs.is_program, "value", None),
    (programs.home_of, "declaration", NO_DECLARATION),
    (programs.declarations_of, "scope", NO_SCOPE),
    (programs.enclosing_scopes, "scope", NO_SCOPE),
    (programs.inner_scopes, "scope", NO_SCOPE),
    (names.is_name, "value", None),
    (names.is_pool, "value", None),
    (names.is_naming, "value", None),
    (names.look_up, "scope", NO_SCOPE),
    (names.look_up, "name", None),
    (regions.region_of, "declaration", NO_DECLARATION),
    (regions.needed_in, "scope", NO_SCOPE),
    (regions.in_conflict, "one", NO_DECLARATION),
    (regions.in_conflict, "other", NO_DECLARATION),
    (regions.conflicts_of, "declaration", NO_DECLARATION),
    (fewest.shows_fewest, "scope", NO_SCOPE),
    (renames.blockers, "declaration", NO_DECLARATION),
    (renames.free_names, "declaration", NO_DECLARATION),
    (renames.rename, "declaration", NO_DECLARATION),
    (renames.rename, "name", (BadName, "name")),
    (groups.shows_groups, "value", None),
    (groups.gather, "naming", BAD_NAMING),
    (plans.run_plan, "plan", (BadPlan, "plan")),
    (plans.shows_plan, "value", None),
    (plans.find_plan, "start", BAD_NAMING),
    (plans.find_plan, "goal", BAD_NAMING),
    (plans.plan_to_name, "naming", BAD_NAMING),
    (plans.plan_to_name, "declaration", NO_DECLARATION),
    (plans.plan_to_name, "name", (BadName, "name")),
    (routes.find_route, "start", BAD_NAMING),
    (routes.find_route, "goal", BAD_NAMING),
    (routes.shows_route, "value", None),
    (shortest.fewest_renames, "start", BAD_NAMING),
    (shortest.fewest_renames, "goal", BAD_NAMING),
    (shortest.shortest_plan, "start", BAD_NAMING),
    (shortest.shortest_plan, "goal", BAD_NAMING),
    (edits.add_use, "declaration", NO_DECLARATION),
    (edits.add_use, "scope", NO_SCOPE),
    (edits.remove_use, "declaration", NO_DECLARATION),
    (edits.remove_use, "scope", NO_SCOPE),
    (edits.add_declaration, "scope", NO_SCOPE),
    (edits.remove_declaration, "declaration", NO_DECLARATION),
    (edits.add_scope, "scope", NO_SCOPE),
    (edits.remove_scope, "scope", NO_SCOPE),
    (edits.plan_for_use, "naming", BAD_NAMING),
    (edits.plan_for_use, "declaration", NO_DECLARATION),
    (edits.plan_for_use, "scope", NO_SCOPE),
)

# Each method of a class, on new objects made with the arguments below, as the functions above.
SPACE = {"program": EXAMPLE, "naming": NAMING, "pool": POOL}
DESK = {"text": TEXT, "names": "a b c"}
METHODS = (
    (Workspace, "rename_one", {"declaration": 3, "name": "c"}, ("a", "b", "b", "c")),
    (Workspace, "go_to", {"goal": GOAL}, ((1, "c"), (2, "c"))),
    (Workspace, "give_name", {"declaration": 0, "name": "c"}, ((0, "c"),)),
    (Workspace, "use_in", {"declaration": 1, "scope": 1}, ((1, "c"),)),
    (Workspace, "unuse_in", {"declaration": 0, "scope": 1}, None),
    (Workspace, "widen_pool", {"name": "d"}, ("a", "b", "c", "d")),
    (Workspace, "current_program", {}, EXAMPLE),
    (Workspace, "current_naming", {}, NAMING),
    (Workspace, "current_pool", {}, POOL),
    (Workspace, "change_count", {}, 0),
    (Workspace, "copy", {}, Workspace(**SPACE)),
    (Desk, "say", {"line": "naming"}, "a b b a"),
)
# The parameters of methods and constructors that accept any value, with the error for what is wrong there.
OPEN_IN_METHODS = (
    (Workspace, "rename_one", "declaration", NO_DECLARATION),
    (Workspace, "rename_one", "name", (BadName, "name")),
    (Workspace, "go_to", "goal", BAD_NAMING),
    (Workspace, "give_name", "declaration", NO_DECLARATION),
    (Workspace, "give_name", "name", (BadName, "name")),
    (Workspace, "use_in", "declaration", NO_DECLARATION),
    (Workspace, "use_in", "scope", NO_SCOPE),
    (Workspace, "unuse_in", "declaration", NO_DECLARATION),
    (Workspace, "unuse_in", "scope", NO_SCOPE),
    (Workspace, "widen_pool", "name", (BadName, "name")),
    (Desk, "say", "line", (BadLine, "line")),
)
OPEN_IN_CONSTRUCTORS = (
    (Workspace, "program", (BadProgram, "program")),
    (Workspace, "naming", BAD_NAMING),
    (Workspace, "pool", (BadPool, "pool")),
    (Desk, "names", (BadPool, "pool")),
)

# All names that the interface lists, by modules.
INTERFACE = {
    errors: """RenameError NoScope NoDeclaration BadName BadNaming BadProgram BadPool BadPlan Unsafe Clash TooFewNames
        TooMany TooLarge OutOfScope MissingUse StillUsed NotEmpty NothingToUndo BadText BadLine""",
    programs: "is_program home_of declarations_of enclosing_scopes inner_scopes height_of",
    names: "is_name is_pool is_naming look_up",
    validity: "find_problems is_valid",
    regions: "region_of needed_in in_conflict conflicts_of all_conflicts width_of widest_scope",
    fewest: "smallest_naming shows_fewest",
    renames: "blockers free_names rename all_renames",
    groups: "groups_of shows_groups gather",
    plans: "run_plan shows_plan find_plan plan_to_name",
    parts: "full_scopes frozen_declarations parts_of is_free",
    routes: "reachable_namings find_route shows_route",
    shortest: "fewest_renames shortest_plan",
    edits: "add_use remove_use add_declaration remove_declaration add_scope remove_scope plan_for_use",
    writing: "write_program",
    reading: "read_program same_program",
}


def new_object(owner):
    return owner(**(SPACE if owner is Workspace else DESK))


def state_of(thing):
    """What an object tells of itself."""
    if isinstance(thing, Desk):
        return [thing.say(line) for line in ("text", "naming", "pool", "changes")]
    return [thing.current_program(), thing.current_naming(), thing.current_pool(), thing.change_count()]


def arguments_with(function, parameter, value):
    """The arguments of the function in CALLS, with another value of one parameter."""
    for called, arguments, _ in CALLS:
        if called is function:
            return {**arguments, parameter: value}
    raise KeyError(function)


def mutable_values():
    """Values that a function could change, and that can be compared afterwards."""
    return [
        [], [1, 2], ["b", "a"], [[-1, 2, [1]]], [list(row) for row in EXAMPLE], {}, {"b": 1, "a": 2}, {0: [1]}, {2, 1},
        bytearray(b"ba"), ([],), (["b", "a"],), ((-1, 1, [0]),), ([-1, 2, [1, 0]],), ("a", ["b"], {"c": []}),
        [[[[{"a": ({1, 2}, [])}]]]],
    ]


class ParametersTest(unittest.TestCase):
    def test_arguments_by_position(self):
        for function, arguments, result in CALLS:
            first = [value for name, value in arguments.items() if name not in BY_KEYWORD]
            rest = {name: value for name, value in arguments.items() if name in BY_KEYWORD}
            with self.subTest(function.__name__):
                self.assertEqual(function(*first, **rest), result)
                if rest:
                    self.assertRaises(TypeError, function, *arguments.values())

    def test_arguments_by_name_in_every_order(self):
        for function, arguments, result in CALLS:
            for order in itertools.permutations(arguments):
                with self.subTest(function.__name__, order=order):
                    self.assertEqual(function(**{name: arguments[name] for name in order}), result)

    def test_some_arguments_by_position_and_the_rest_by_name(self):
        for function, arguments, result in CALLS:
            for many in range(len([name for name in arguments if name not in BY_KEYWORD])):
                first = list(arguments.values())[:many]
                rest = {name: arguments[name] for name in reversed(list(arguments)[many:])}
                with self.subTest(function.__name__, many=many):
                    self.assertEqual(function(*first, **rest), result)

    def test_the_parameters_are_those_of_the_document(self):
        for function, arguments, _ in CALLS:
            parameters = inspect.signature(function).parameters
            with self.subTest(function.__name__):
                self.assertEqual(list(parameters), list(arguments))
                for name, parameter in parameters.items():
                    self.assertEqual(parameter.default, BY_KEYWORD.get(name, parameter.empty))
                    self.assertIs(parameter.kind == parameter.KEYWORD_ONLY, name in BY_KEYWORD)

    def test_the_kinds_of_the_results(self):
        for function, arguments, result in CALLS:
            with self.subTest(function.__name__):
                self.assertIs(type(function(**arguments)), type(result))

    def test_the_same_call_returns_the_same_value(self):
        for function, arguments, result in CALLS:
            for _ in range(3):
                self.assertEqual(function(**arguments), result)


class MethodsTest(unittest.TestCase):
    def test_arguments_by_position(self):
        for owner, method, arguments, result in METHODS:
            with self.subTest(method):
                self.assertEqual(getattr(new_object(owner), method)(*arguments.values()), result)

    def test_arguments_by_name_in_every_order(self):
        for owner, method, arguments, result in METHODS:
            for order in itertools.permutations(arguments):
                with self.subTest(method, order=order):
                    found = getattr(new_object(owner), method)(**{name: arguments[name] for name in order})
                    self.assertEqual(found, result)
                    self.assertIs(type(found), type(result))

    def test_the_constructors_by_position_and_by_name_in_every_order(self):
        for owner, arguments in ((Workspace, SPACE), (Desk, DESK)):
            expected = state_of(new_object(owner))
            self.assertEqual(state_of(owner(*arguments.values())), expected)
            for order in itertools.permutations(arguments):
                self.assertEqual(state_of(owner(**{name: arguments[name] for name in order})), expected)

    def test_the_parameters_are_those_of_the_document(self):
        for owner, method, arguments, _ in METHODS:
            with self.subTest(method):
                parameters = inspect.signature(getattr(new_object(owner), method)).parameters
                self.assertEqual(list(parameters), list(arguments))
                self.assertEqual({each.default for each in parameters.values()} - {inspect.Parameter.empty}, set())
        self.assertEqual(list(inspect.signature(Workspace).parameters), list(SPACE))
        defaults = {name: each.default for name, each in inspect.signature(Desk).parameters.items()}
        self.assertEqual(defaults, {"text": "", "names": "a b c"})
        self.assertEqual(list(inspect.signature(Workspace(**SPACE).undo).parameters), [])

    def test_each_method_is_defined_in_the_class_itself(self):
        for owner, method, _, _ in METHODS + ((Workspace, "undo", {}, None), (Workspace, "__eq__", {}, None)):
            self.assertIn(method, vars(owner))

    def test_values_of_any_kind(self):
        for owner, method, parameter, error in OPEN_IN_METHODS:
            arguments = [row[2] for row in METHODS if row[1] == method][0]
            thing = new_object(owner)
            before = state_of(thing)
            for value in any_values():
                with self.subTest(method, parameter=parameter, kind=type(value)):
                    with self.assertRaises(RenameError) as context:
                        getattr(thing, method)(**{**arguments, parameter: value})
                    self.assertIs(type(context.exception), error[0])
                    self.assertIs(vars(context.exception)[error[1]], value)
                    self.assertEqual(state_of(thing), before)

    def test_values_of_any_kind_for_constructors(self):
        for owner, parameter, error in OPEN_IN_CONSTRUCTORS:
            for value in any_values():
                # These two describe pools.
                if owner is Desk and isinstance(value, str) and value in ("", "a b"):
                    continue
                arguments = {**(SPACE if owner is Workspace else {"text": "let zz"}), parameter: value}
                with self.subTest(owner.__name__, parameter=parameter, kind=type(value)):
                    with self.assertRaises(RenameError) as context:
                        owner(**arguments)
                    self.assertIs(type(context.exception), error[0])
                    self.assertIs(vars(context.exception)[error[1]], value)

    def test_no_argument_changes(self):
        for owner, method, parameter, _ in OPEN_IN_METHODS:
            arguments = [row[2] for row in METHODS if row[1] == method][0]
            for value in mutable_values():
                before = copy.deepcopy(value)
                self.assertRaises(
                    RenameError, getattr(new_object(owner), method), **{**arguments, parameter: value})
                self.assertEqual(value, before)
        for owner, parameter, _ in OPEN_IN_CONSTRUCTORS:
            for value in mutable_values():
                before = copy.deepcopy(value)
                self.assertRaises(
                    RenameError, owner, **{**(SPACE if owner is Workspace else {"text": ""}), parameter: value})
                self.assertEqual(value, before)
        before = copy.deepcopy((SPACE, DESK))
        for owner, method, arguments, _ in METHODS:
            given = copy.deepcopy(arguments)
            getattr(new_object(owner), method)(**given)
            self.assertEqual(given, arguments)
        self.assertEqual((SPACE, DESK), before)


class InterfaceTest(unittest.TestCase):
    def test_every_name_exists(self):
        for module, listed in INTERFACE.items():
            for name in listed.split():
                with self.subTest(module.__name__, name=name):
                    self.assertEqual(getattr(module, name).__module__, module.__name__)
        self.assertEqual(Workspace.__module__, "renamesteps.workspace")
        self.assertEqual(Desk.__module__, "renamesteps.desk")

    def test_every_function_is_tried_above(self):
        listed = {name for module, found in INTERFACE.items() if module is not errors for name in found.split()}
        self.assertEqual({function.__name__ for function, _, _ in CALLS}, listed)


class UnchangedArgumentsTest(unittest.TestCase):
    def test_arguments_that_are_right(self):
        for function, arguments, _ in CALLS:
            before = copy.deepcopy(arguments)
            function(**arguments)
            self.assertEqual(arguments, before)

    def test_values_of_any_kind(self):
        for function, parameter, _ in OPEN_PARAMETERS:
            for value in mutable_values():
                before = copy.deepcopy(value)
                with self.subTest(function.__name__, value=before):
                    try:
                        function(**arguments_with(function, parameter, value))
                    except RenameError:
                        pass
                    self.assertEqual(value, before)


class ErrorsTest(unittest.TestCase):
    def test_no_other_errors_for_values_of_any_kind(self):
        for function, parameter, error in OPEN_PARAMETERS:
            for value in any_values():
                arguments = arguments_with(function, parameter, value)
                with self.subTest(function.__name__, parameter=parameter, kind=type(value)):
                    if error is None:
                        self.assertIn(function(**arguments), (False, None))
                        continue
                    with self.assertRaises(RenameError) as context:
                        function(**arguments)
                    self.assertIs(type(context.exception), error[0])
                    self.assertEqual(list(vars(context.exception)), [error[1]])
                    self.assertIs(vars(context.exception)[error[1]], value)

    def test_every_number_is_tried(self):
        numbers = ("declaration", "scope", "one", "other")
        found = [(function, name) for function, arguments, _ in CALLS for name in arguments
                 if name in numbers and function is not reading.same_program]
        self.assertEqual([row[:2] for row in OPEN_PARAMETERS if row[1] in numbers], found)

    def test_texts_of_any_kind(self):
        for value in any_values():
            if isinstance(value, str) and not value:
                continue
            for function, arguments in (
                    (reading.read_program, {"text": value}), (reading.same_program, {"one": value, "other": TEXT}),
                    (reading.same_program, {"one": TEXT, "other": value}), (Desk, {"text": value})):
                with self.subTest(function.__name__, kind=type(value)), self.assertRaises(BadText) as context:
                    function(**arguments)
                self.assertEqual(vars(context.exception), {"line": 0})

    def test_no_scope_comes_before_a_name_of_any_kind(self):
        for scope, name in itertools.product(any_values(), any_values()):
            with self.assertRaises(NoScope) as context:
                names.look_up(EXAMPLE, NAMING, scope, name)
            self.assertIs(context.exception.scope, scope)


class LimitsTest(unittest.TestCase):
    def test_programs_and_names_raise_nothing_somewhat_beyond_the_limits(self):
        program = tuple((scope - 1, 2, (0,)) for scope in range(50))
        naming = ("abcdefghi",) * 100
        self.assertIs(programs.is_program(program), False)
        self.assertEqual(programs.home_of(program, 99), 49)
        self.assertEqual(programs.declarations_of(program, 49), (98, 99))
        self.assertEqual(programs.enclosing_scopes(program, 49), tuple(range(49, -1, -1)))
        self.assertEqual(programs.inner_scopes(program, 45), (45, 46, 47, 48, 49))
        self.assertEqual(programs.height_of(program), 50)
        self.assertIs(names.is_naming(program, naming), False)
        self.assertIs(names.is_naming(program, ("a",) * 100), True)
        self.assertIsNone(names.look_up(program, naming, 49, "a"))

    def test_the_fewest_names_raise_nothing_somewhat_beyond_the_limits(self):
        program = tuple((scope - 1, 2, (0,)) for scope in range(50))
        self.assertEqual(len(validity.find_problems(program, ("a",) * 100)), 50 + 49)
        self.assertEqual(regions.region_of(program, 0), tuple(range(50)))
        self.assertEqual(regions.needed_in(program, 49), (0, 98, 99))
        self.assertEqual(len(regions.all_conflicts(program)), 50 + 49 * 2)
        self.assertEqual((regions.width_of(program), regions.widest_scope(program)), (3, 1))
        naming = fewest.smallest_naming(program, HUNDRED)
        self.assertEqual(naming, ("aa", "ab") + ("ab", "ac") * 49)
        self.assertIs(fewest.shows_fewest(program, naming, 49), True)

    def test_plans_raise_nothing_somewhat_beyond_the_limits(self):
        program = tuple((scope - 1, 2, (0,)) for scope in range(50))
        naming = ("aa", "ab") + ("ab", "ac") * 49
        goal = ("ac", "aa") + ("aa", "ab") * 49
        self.assertEqual(len(renames.all_renames(program, naming, HUNDRED)), 100 * 97 + 1)
        self.assertIs(groups.shows_groups(program, groups.groups_of(program)), True)
        for pool in (HUNDRED[:4], HUNDRED):
            plan = plans.find_plan(program, naming, goal, pool)
            self.assertEqual(plans.run_plan(program, naming, plan), goal)
            last = plans.run_plan(program, naming, plans.plan_to_name(program, naming, 99, "aa", pool))
            self.assertEqual(last[99], "aa")
        self.assertEqual(parts.full_scopes(program, HUNDRED[:3]), tuple(range(1, 50)))
        self.assertEqual(parts.parts_of(program, HUNDRED[:3]), ((1,),))

    def test_routes_and_edits_raise_nothing_somewhat_beyond_the_limits(self):
        program = tuple((scope - 1, 2, (0,)) for scope in range(50))
        naming = ("aa", "ab") + ("ab", "ac") * 49
        goal = ("aa", "ac") + ("ab", "ac") * 49
        self.assertEqual(routes.reachable_namings(program, naming, (1,), HUNDRED[:3]), (("ab",), ("ac",)))
        for function, result in (
                (routes.find_route, ("plan", ((1, "ac"),))), (shortest.fewest_renames, 1),
                (shortest.shortest_plan, ((1, "ac"),))):
            self.assertEqual(function(program, naming, goal, HUNDRED[:3]), result)
        self.assertIs(routes.shows_route(program, naming, goal, HUNDRED[:3], ("plan", ((1, "ac"),))), True)
        self.assertEqual(edits.add_use(program, 97, 49)[49], (48, 2, (0, 97)))
        self.assertEqual(edits.remove_use(program, 0, 49)[49], (48, 2, ()))
        self.assertEqual(edits.remove_declaration(program, 99)[49], (48, 1, (0,)))
        self.assertEqual(edits.remove_scope(program + ((49, 0, ()),), 50), program)
        self.assertEqual(edits.plan_for_use(program, naming, 97, 49, HUNDRED[:4]), ((97, "ad"),))
        self.assertEqual(len(writing.write_program(program, naming).split("\n")), 50 * 3 + 49 * 2)
        for edit, limit in ((edits.add_declaration, 60), (edits.add_scope, 40)):
            with self.assertRaises(TooLarge) as context:
                edit(program, 49)
            self.assertEqual(context.exception.limit, limit)


if __name__ == "__main__":
    unittest.main()

"""Tests of the module workspace."""

import itertools
import random
import unittest

from renamesteps.edits import add_use, plan_for_use
from renamesteps.errors import (
    BadName, BadNaming, BadPool, BadProgram, Clash, MissingUse, NoDeclaration, NoScope, NothingToUndo, OutOfScope,
    RenameError, TooFewNames, TooLarge)
from renamesteps.workspace import Workspace
from tests import definitions
from tests.definitions import count
from tests.following import follow, follow_by_validity
from tests.raising import RaisingTest
from tests.samples import (
    BARE, BARE_CHAIN, CROWDED, EXAMPLE, HUNDRED, LARGEST, PROGRAMS, WRONG_NAMINGS, any_values, random_programs,
    random_valid_naming, small_programs, wrong_numbers)

NAMING = ("a", "b", "b", "a")
POOL = ("a", "b", "c")
TIGHT = ("a", "b")

# Values that are not a name of POOL.
WRONG_NAMES = ["d", "aa", "ab", 0, 1, -1, (), ("a",), ["a"], b"a", "a ", "A"]


def values_of(space):
    return space.current_program(), space.current_naming(), space.current_pool()


def state_of(space):
    return values_of(space) + (space.change_count(),)


def all_states(space):
    """The values of a workspace and those before each of its changes, the last ones first."""
    found = [state_of(space)]
    space = space.copy()
    while space.change_count():
        space.undo()
        found.append(state_of(space))
    return found


class WorkspaceTest(RaisingTest):
    def assert_refused(self, error, value, space, method, *arguments):
        """The call raises the error, and nothing changes."""
        before = all_states(space)
        self.assert_error(error, value, getattr(space, method), *arguments)
        self.assertEqual(all_states(space), before)

    def check_change(self, space, method, arguments, result, values):
        """The call is one change, which can be undone, with this result and these values after it."""
        before = state_of(space)
        self.assertEqual(getattr(space, method)(*arguments), result)
        self.assertEqual(state_of(space), values + (before[3] + 1,))
        self.assertIsNone(space.undo())
        self.assertEqual(state_of(space), before)
        getattr(space, method)(*arguments)
        self.assertEqual(state_of(space), values + (before[3] + 1,))

    def changed_spaces(self, program=EXAMPLE, naming=NAMING, pool=POOL):
        """Workspaces with these values that have no changes, and some."""
        yield Workspace(program, naming, pool)
        space = Workspace(program, naming, pool)
        for _ in range(3):
            space.go_to(naming)
        yield space
        space = Workspace(program, naming, pool)
        space.widen_pool("zz")
        space.undo()
        space.go_to(naming)
        yield space


class ConstructorTest(WorkspaceTest):
    def test_the_values(self):
        space = Workspace(EXAMPLE, NAMING, POOL)
        self.assertEqual(state_of(space), (EXAMPLE, NAMING, POOL, 0))
        source = random.Random(181)
        for program in itertools.chain(PROGRAMS, small_programs(2), random_programs(182, 20)):
            for more in (0, 1, 5):
                pool = HUNDRED[:definitions.width(program) + more]
                naming = random_valid_naming(source, program, pool)
                self.assertEqual(state_of(Workspace(program, naming, pool)), (program, naming, pool, 0))

    def test_limits(self):
        self.assertEqual(values_of(Workspace(BARE, (), ())), (BARE, (), ()))
        self.assertEqual(values_of(Workspace(BARE, (), HUNDRED[:80])), (BARE, (), HUNDRED[:80]))
        pool = HUNDRED[:81]
        self.assert_error(BadPool, pool, Workspace, BARE, (), pool)
        program = BARE_CHAIN + ((39, 0, ()),)
        self.assert_error(BadProgram, program, Workspace, program, (), ())
        program = ((-1, 61, ()),)
        self.assert_error(BadProgram, program, Workspace, program, HUNDRED[:61], HUNDRED[:80])
        space = Workspace(CROWDED, HUNDRED[:60], HUNDRED[:80])
        self.assertEqual(values_of(space), (CROWDED, HUNDRED[:60], HUNDRED[:80]))

    def wrong_pools(self):
        return any_values() + [("a", "a"), ("a", "B"), ["a", "b"], ("a", ""), "ab", 0, HUNDRED[:81], ("a", "b", 0)]

    def test_bad_program_ahead_of_bad_pool_and_bad_naming(self):
        programs = any_values() + [
            (), 0, EXAMPLE[:1] + EXAMPLE, list(EXAMPLE), EXAMPLE[1:], ((-1, True, ()),), ((-1, 1, (1,)),), (EXAMPLE,)]
        for value in programs:
            for naming, pool in itertools.product((NAMING, (), None), (POOL, ("a", "a"), None)):
                self.assert_error(BadProgram, value, Workspace, value, naming, pool)

    def test_bad_pool_ahead_of_bad_naming(self):
        for value in self.wrong_pools():
            for naming in (NAMING, ("a", "a", "a", "a"), (), None):
                self.assert_error(BadPool, value, Workspace, EXAMPLE, naming, value)

    def test_bad_naming(self):
        for value in WRONG_NAMINGS + tuple(any_values()):
            for pool in (POOL, TIGHT, ("a",), ()):
                self.assert_error(BadNaming, value, Workspace, EXAMPLE, value, pool)
        self.assert_error(BadNaming, NAMING, Workspace, EXAMPLE, NAMING, ("a", "c"))
        self.assert_error(BadNaming, ("a",), Workspace, BARE, ("a",), POOL)

    def test_values_of_any_kind_for_all_three(self):
        for value in any_values():
            self.assert_error(BadProgram, value, Workspace, value, value, value)


class RenameOneTest(WorkspaceTest):
    def test_every_declaration_and_every_name(self):
        for naming in definitions.valid_namings(EXAMPLE, POOL):
            for number, name in itertools.product(range(4), POOL):
                later = definitions.renamed(naming, number, name)
                for space in self.changed_spaces(naming=naming):
                    if definitions.valid(EXAMPLE, later):
                        self.check_change(space, "rename_one", (number, name), later, (EXAMPLE, later, POOL))
                    else:
                        other = min(other for other in range(4) if naming[other] == name
                                    and (number, other) in definitions.conflicts(EXAMPLE))
                        self.assert_refused(Clash, other, space, "rename_one", number, name)

    def test_the_name_that_the_declaration_has(self):
        for pool in (TIGHT, POOL):
            space = Workspace(EXAMPLE, NAMING, pool)
            for number in range(4):
                self.check_change(space, "rename_one", (number, NAMING[number]), NAMING, (EXAMPLE, NAMING, pool))
            self.assertEqual(space.change_count(), 4)

    def test_the_errors_in_order(self):
        for space in self.changed_spaces():
            for value in wrong_numbers(4):
                for name in ("a", "d", None):
                    self.assert_refused(NoDeclaration, value, space, "rename_one", value, name)
            for value in any_values() + WRONG_NAMES:
                self.assert_refused(BadName, value, space, "rename_one", 0, value)
            self.assert_refused(Clash, 1, space, "rename_one", 0, "b")
            self.assert_refused(Clash, 0, space, "rename_one", 2, "a")

    def test_a_name_out_of_the_pool(self):
        space = Workspace(EXAMPLE, NAMING, TIGHT)
        self.assert_refused(BadName, "c", space, "rename_one", 3, "c")
        space.widen_pool("c")
        self.assertEqual(space.rename_one(3, "c"), ("a", "b", "b", "c"))


class GoToTest(WorkspaceTest):
    def check(self, program, naming, goal, pool, way=follow):
        space = Workspace(program, naming, pool)
        plan = space.go_to(goal)
        self.assertLessEqual(len(plan), 4 * count(program) * definitions.height(program))
        self.assertEqual(way(self, program, naming, plan, pool), goal)
        self.assertEqual(state_of(space), (program, goal, pool, 1))
        if naming == goal:
            self.assertEqual(plan, ())
        space.undo()
        self.assertEqual(state_of(space), (program, naming, pool, 0))
        self.assertEqual(space.go_to(goal), plan)

    def test_every_naming_of_the_example(self):
        namings = definitions.valid_namings(EXAMPLE, POOL)
        for naming, goal in itertools.product(namings[::3], namings):
            self.check(EXAMPLE, naming, goal, POOL, follow_by_validity)

    def test_large_programs(self):
        source = random.Random(183)
        for program in itertools.chain(PROGRAMS, random_programs(184, 20)):
            for more in (1, 3):
                many = definitions.width(program) + more
                pool = tuple(source.sample(HUNDRED[:many], many))
                self.check(program, *(random_valid_naming(source, program, pool) for _ in range(2)), pool)

    def test_the_present_naming_needs_no_room(self):
        source = random.Random(185)
        for program in itertools.chain(PROGRAMS, random_programs(186, 10)):
            for more in (0, 1):
                pool = HUNDRED[:definitions.width(program) + more]
                naming = random_valid_naming(source, program, pool)
                space = Workspace(program, naming, pool)
                self.check_change(space, "go_to", (naming,), (), (program, naming, pool))

    def test_too_few_names(self):
        for space in self.changed_spaces(pool=TIGHT):
            for goal in (("b", "a", "a", "a"), ("a", "b", "b", "b")):
                self.assert_refused(TooFewNames, 3, space, "go_to", goal)

    def test_bad_naming_ahead_of_too_few_names(self):
        for pool in (POOL, TIGHT):
            for space in self.changed_spaces(pool=pool):
                for value in WRONG_NAMINGS + tuple(any_values()):
                    self.assert_refused(BadNaming, value, space, "go_to", value)


class GiveNameTest(WorkspaceTest):
    def check(self, program, naming, number, name, pool, way=follow):
        space = Workspace(program, naming, pool)
        plan = space.give_name(number, name)
        self.assertLessEqual(len(plan), 4 * count(program) * definitions.height(program))
        last = way(self, program, naming, plan, pool)
        self.assertEqual(last[number], name)
        self.assertEqual(state_of(space), (program, last, pool, 1))
        if naming[number] == name:
            self.assertEqual(plan, ())
        space.undo()
        self.assertEqual(state_of(space), (program, naming, pool, 0))

    def test_every_declaration_and_every_name(self):
        for naming in definitions.valid_namings(EXAMPLE, POOL):
            for number, name in itertools.product(range(4), POOL):
                self.check(EXAMPLE, naming, number, name, POOL, follow_by_validity)

    def test_large_programs(self):
        source = random.Random(187)
        for program in itertools.chain(PROGRAMS, random_programs(188, 20)):
            for more in (1, 3):
                many = definitions.width(program) + more
                pool = tuple(source.sample(HUNDRED[:many], many))
                naming = random_valid_naming(source, program, pool)
                for number in source.sample(range(count(program)), min(count(program), 4)):
                    self.check(program, naming, number, source.choice(pool), pool)

    def test_the_name_that_the_declaration_has_needs_no_room(self):
        for pool in (TIGHT, POOL):
            space = Workspace(EXAMPLE, NAMING, pool)
            for number in range(4):
                self.check_change(space, "give_name", (number, NAMING[number]), (), (EXAMPLE, NAMING, pool))

    def test_too_few_names(self):
        # Also where one rename would be enough.
        for space in self.changed_spaces(pool=TIGHT):
            self.assert_refused(TooFewNames, 3, space, "give_name", 0, "b")
            self.assert_refused(TooFewNames, 3, space, "give_name", 3, "b")

    def test_the_errors_in_order(self):
        for pool in (POOL, TIGHT):
            for space in self.changed_spaces(pool=pool):
                for value in wrong_numbers(4):
                    for name in ("a", "d", None):
                        self.assert_refused(NoDeclaration, value, space, "give_name", value, name)
                for value in any_values() + WRONG_NAMES:
                    self.assert_refused(BadName, value, space, "give_name", 0, value)


class UseInTest(WorkspaceTest):
    def check(self, program, naming, number, scope, pool, way=follow):
        space = Workspace(program, naming, pool)
        plan = space.use_in(number, scope)
        self.assertEqual(plan, plan_for_use(program, naming, number, scope, pool))
        self.assertLessEqual(len(plan), 4 * count(program) * definitions.height(program))
        last = way(self, program, naming, plan, pool)
        later = add_use(program, number, scope)
        self.assertTrue(definitions.valid(later, last))
        self.assertEqual(state_of(space), (later, last, pool, 1))
        space.undo()
        self.assertEqual(state_of(space), (program, naming, pool, 0))

    def test_every_naming_of_the_example(self):
        for naming in definitions.valid_namings(EXAMPLE, POOL):
            for number, scope in ((0, 0), (0, 1), (0, 2), (1, 0), (1, 1), (1, 2), (2, 1), (3, 2)):
                self.check(EXAMPLE, naming, number, scope, POOL, follow_by_validity)

    def test_large_programs(self):
        source = random.Random(189)
        for program in itertools.chain(PROGRAMS, random_programs(190, 20)):
            pairs = [(number, scope) for number, home in enumerate(definitions.homes(program))
                     for scope in range(len(program)) if home in definitions.enclosing(program)[scope]]
            for more in (1, 3):
                many = definitions.width(program) + more
                pool = tuple(source.sample(HUNDRED[:many], many))
                naming = random_valid_naming(source, program, pool)
                for number, scope in source.sample(pairs, min(len(pairs), 3)):
                    self.check(program, naming, number, scope, pool)

    def test_uses_until_no_name_is_left(self):
        # Each use needs one name more in scope 1, until all names of the pool are needed there.
        program = ((-1, 4, ()), (0, 2, ()))
        pool = HUNDRED[:6]
        space = Workspace(program, HUNDRED[:4] + HUNDRED[:2], pool)
        for number in range(4):
            space.use_in(number, 1)
            self.assertTrue(definitions.valid(space.current_program(), space.current_naming()))
        self.assertEqual(space.current_program(), ((-1, 4, ()), (0, 2, (0, 1, 2, 3))))
        self.assertEqual(sorted(space.current_naming()), sorted(pool))
        self.assertEqual(space.change_count(), 4)

    def test_no_room_is_needed_if_the_naming_is_valid_with_the_use(self):
        space = Workspace(EXAMPLE, NAMING, TIGHT)
        self.check_change(space, "use_in", (0, 1), (), (EXAMPLE, NAMING, TIGHT))
        self.check_change(space, "use_in", (1, 2), (), (add_use(EXAMPLE, 1, 2), NAMING, TIGHT))
        self.assert_refused(TooFewNames, 3, space, "use_in", 1, 1)

    def test_the_errors_in_order(self):
        for pool in (POOL, TIGHT):
            for space in self.changed_spaces(pool=pool):
                for value in wrong_numbers(4):
                    for scope in (0, 3, None):
                        self.assert_refused(NoDeclaration, value, space, "use_in", value, scope)
                for value in wrong_numbers(3):
                    for number in (0, 3):
                        self.assert_refused(NoScope, value, space, "use_in", number, value)
                for number, scope in ((2, 0), (2, 2), (3, 0), (3, 1)):
                    self.assert_refused(OutOfScope, scope, space, "use_in", number, scope)
        for space in self.changed_spaces(pool=TIGHT):
            self.assert_refused(TooFewNames, 3, space, "use_in", 1, 1)


class UnuseInTest(WorkspaceTest):
    def test_every_declaration_and_every_scope(self):
        for space in self.changed_spaces():
            for number, scope in itertools.product(range(4), range(3)):
                if number in EXAMPLE[scope][2]:
                    uses = tuple(use for use in EXAMPLE[scope][2] if use != number)
                    later = EXAMPLE[:scope] + (EXAMPLE[scope][:2] + (uses,),) + EXAMPLE[scope + 1:]
                    self.check_change(space, "unuse_in", (number, scope), None, (later, NAMING, POOL))
                    space.undo()
                else:
                    self.assert_refused(MissingUse, scope, space, "unuse_in", number, scope)

    def test_the_naming_stays(self):
        space = Workspace(EXAMPLE, NAMING, TIGHT)
        self.assertIsNone(space.unuse_in(0, 1))
        self.assertEqual(space.rename_one(2, "a"), ("a", "b", "a", "a"))
        self.assert_refused(MissingUse, 1, space, "unuse_in", 0, 1)

    def test_the_errors_in_order(self):
        for space in self.changed_spaces():
            for value in wrong_numbers(4):
                for scope in (0, 3, None):
                    self.assert_refused(NoDeclaration, value, space, "unuse_in", value, scope)
            for value in wrong_numbers(3):
                for number in (0, 3):
                    self.assert_refused(NoScope, value, space, "unuse_in", number, value)


class WidenPoolTest(WorkspaceTest):
    def test_the_name_is_the_last_one(self):
        for space in self.changed_spaces():
            self.check_change(space, "widen_pool", ("zz",), POOL + ("zz",), (EXAMPLE, NAMING, POOL + ("zz",)))
            self.check_change(
                space, "widen_pool", ("aa",), POOL + ("zz", "aa"), (EXAMPLE, NAMING, POOL + ("zz", "aa")))

    def test_up_to_80_names(self):
        space = Workspace(BARE, (), ())
        for many in range(80):
            self.assertEqual(space.widen_pool(HUNDRED[many]), HUNDRED[:many + 1])
        self.assertEqual(state_of(space), (BARE, (), HUNDRED[:80], 80))
        self.assert_refused(TooLarge, 80, space, "widen_pool", "zz")
        for _ in range(80):
            space.undo()
        self.assertEqual(state_of(space), (BARE, (), (), 0))

    def test_bad_name_ahead_of_too_large(self):
        for space in (Workspace(EXAMPLE, NAMING, POOL), Workspace(BARE, (), POOL + HUNDRED[:77])):
            for value in any_values() + ["a", "b", "c", 0, 1, -1, (), ("d",), ["d"], b"d", "d ", "D", "abcdefghi"]:
                self.assert_refused(BadName, value, space, "widen_pool", value)

    def test_the_longest_name(self):
        self.assertEqual(Workspace(BARE, (), ()).widen_pool("abcdefgh"), ("abcdefgh",))

    def test_a_wider_pool_gives_room(self):
        space = Workspace(EXAMPLE, NAMING, TIGHT)
        goal = ("b", "a", "a", "a")
        self.assert_refused(TooFewNames, 3, space, "go_to", goal)
        space.widen_pool("zz")
        plan = space.go_to(goal)
        self.assertEqual(follow_by_validity(self, EXAMPLE, NAMING, plan, ("a", "b", "zz")), goal)


class UndoTest(WorkspaceTest):
    def test_all_kinds_of_changes(self):
        space = Workspace(EXAMPLE, NAMING, TIGHT)
        states = [state_of(space)]
        for method, arguments in (
                ("rename_one", (3, "b")), ("widen_pool", ("c",)), ("widen_pool", ("d",)), ("give_name", (0, "b")),
                ("use_in", (1, 1)), ("unuse_in", (3, 2)), ("go_to", (("a", "b", "c", "a"),)), ("use_in", (1, 1)),
                ("rename_one", (0, "a")), ("go_to", (("a", "b", "c", "a"),)), ("give_name", (0, "a")),
                ("widen_pool", ("e",)), ("unuse_in", (1, 1))):
            getattr(space, method)(*arguments)
            states.append(state_of(space))
            self.assertEqual(space.change_count(), len(states) - 1)
        self.assertEqual(len(set(state[:3] for state in states)), 10)
        while len(states) > 1:
            states.pop()
            self.assertIsNone(space.undo())
            self.assertEqual(state_of(space), states[-1])
        self.assert_refused(NothingToUndo, 0, space, "undo")

    def test_nothing_to_undo(self):
        for space in (Workspace(EXAMPLE, NAMING, POOL), Workspace(BARE, (), ())):
            self.assert_refused(NothingToUndo, 0, space, "undo")
            space.widen_pool("zz")
            space.undo()
            self.assert_refused(NothingToUndo, 0, space, "undo")

    def test_changes_after_an_undo(self):
        space = Workspace(EXAMPLE, NAMING, POOL)
        space.rename_one(3, "b")
        space.rename_one(3, "c")
        space.undo()
        space.rename_one(0, "c")
        self.assertEqual(state_of(space), (EXAMPLE, ("c", "b", "b", "b"), POOL, 2))
        space.undo()
        self.assertEqual(state_of(space), (EXAMPLE, ("a", "b", "b", "b"), POOL, 1))
        space.undo()
        self.assertEqual(state_of(space), (EXAMPLE, NAMING, POOL, 0))

    def test_undo_is_no_change(self):
        space = Workspace(EXAMPLE, NAMING, POOL)
        space.rename_one(3, "b")
        space.undo()
        self.assertEqual(space.change_count(), 0)

    def test_random_changes(self):
        source = random.Random(191)
        for program in random_programs(192, 15, scopes=8, declarations=8):
            pool = HUNDRED[:definitions.width(program) + 1]
            space = Workspace(program, random_valid_naming(source, program, pool), pool)
            states = [state_of(space)]
            for _ in range(40):
                change_somehow(source, space, states)
                self.assertEqual(state_of(space), states[-1])
            while len(states) > 1:
                states.pop()
                space.undo()
                self.assertEqual(state_of(space), states[-1])


def change_somehow(source, space, states):
    """Makes a random change, or an undo, or a call that raises, and keeps the list of states as it should be."""
    program, naming, pool = values_of(space)
    number, scope = source.randrange(count(program) + 1), source.randrange(len(program) + 1)
    name = source.choice(HUNDRED[:len(pool) + 1])
    method, arguments = source.choice((
        ("rename_one", (number, name)), ("give_name", (number, name)), ("use_in", (number, scope)),
        ("unuse_in", (number, scope)), ("widen_pool", (name,)), ("undo", ()),
        ("go_to", (random_valid_naming(source, program, pool),))))
    try:
        getattr(space, method)(*arguments)
    except RenameError:
        return
    if method == "undo":
        states.pop()
    else:
        states.append(values_of(space) + (len(states),))


class PlansTest(WorkspaceTest):
    """A returned plan depends on program, naming and pool alone."""

    def test_the_same_call_after_other_changes_and_their_undoing(self):
        source = random.Random(193)
        for program in random_programs(194, 25, scopes=12, declarations=14):
            if count(program) == 0:
                continue
            pool = HUNDRED[:definitions.width(program) + 1]
            naming, goal = (random_valid_naming(source, program, pool) for _ in range(2))
            number = source.randrange(count(program))
            inside = [at for at in range(len(program))
                      if definitions.homes(program)[number] in definitions.enclosing(program)[at]]
            calls = (("go_to", (goal,)), ("give_name", (number, source.choice(pool))),
                     ("use_in", (number, source.choice(inside))))
            for method, arguments in calls:
                plan = getattr(Workspace(program, naming, pool), method)(*arguments)
                space = Workspace(program, naming, pool)
                states = [state_of(space)]
                for _ in range(8):
                    change_somehow(source, space, states)
                while space.change_count():
                    space.undo()
                self.assertEqual(getattr(space, method)(*arguments), plan)
                space.undo()
                # Changes that are not undone and lead to the same values.
                space.go_to(goal)
                space.go_to(naming)
                self.assertEqual(getattr(space, method)(*arguments), plan)

    def test_plans_from_other_workspaces(self):
        space = Workspace(EXAMPLE, ("b", "a", "a", "b"), POOL)
        space.go_to(NAMING)
        for goal in definitions.valid_namings(EXAMPLE, POOL):
            self.assertEqual(space.copy().go_to(goal), Workspace(EXAMPLE, NAMING, POOL).go_to(goal))


class CopyTest(WorkspaceTest):
    def test_the_same_values_and_changes(self):
        for space in self.changed_spaces():
            twin = space.copy()
            self.assertIs(type(twin), Workspace)
            self.assertIsNot(twin, space)
            self.assertEqual(all_states(twin), all_states(space))

    def test_both_change_independently(self):
        for first, second in ((0, 1), (1, 0)):
            space = Workspace(EXAMPLE, NAMING, POOL)
            space.rename_one(3, "b")
            pair = [space, space.copy()]
            before = all_states(pair[second])
            for method, arguments in (
                    ("rename_one", (3, "c")), ("widen_pool", ("d",)), ("unuse_in", (3, 2)), ("use_in", (1, 1)),
                    ("give_name", (0, "b")), ("go_to", (("a", "b", "c", "d"),))):
                getattr(pair[first], method)(*arguments)
                self.assertEqual(all_states(pair[second]), before)
            while pair[first].change_count():
                pair[first].undo()
                self.assertEqual(all_states(pair[second]), before)
            pair[second].undo()
            self.assertEqual(state_of(pair[second]), (EXAMPLE, NAMING, POOL, 0))

    def test_a_copy_of_a_copy(self):
        space = Workspace(EXAMPLE, NAMING, POOL)
        twin = space.copy().copy()
        twin.widen_pool("d")
        self.assertEqual(space.current_pool(), POOL)
        self.assertEqual(twin.copy().change_count(), 1)


class EqualTest(WorkspaceTest):
    def check(self, one, other, expected):
        self.assertIs(one == other, expected)
        self.assertIs(one != other, not expected)
        self.assertIs(other == one, expected)
        self.assertIs(other != one, not expected)

    def test_changes_do_not_matter(self):
        for one, other in itertools.product(self.changed_spaces(), self.changed_spaces()):
            self.check(one, other, True)
        space = Workspace(EXAMPLE, NAMING, POOL)
        self.check(space, space, True)
        self.check(space, space.copy(), True)
        space.rename_one(3, "b")
        self.check(space, Workspace(EXAMPLE, ("a", "b", "b", "b"), POOL), True)

    def test_other_values(self):
        space = Workspace(EXAMPLE, NAMING, POOL)
        self.check(space, Workspace(add_use(EXAMPLE, 1, 2), NAMING, POOL), False)
        self.check(space, Workspace(EXAMPLE, ("a", "b", "b", "b"), POOL), False)
        self.check(space, Workspace(EXAMPLE, NAMING, POOL + ("d",)), False)
        self.check(space, Workspace(EXAMPLE, NAMING, ("a", "c", "b")), False)
        self.check(Workspace(BARE, (), ()), Workspace(BARE_CHAIN, (), ()), False)

    def test_values_of_any_other_kind(self):
        space = Workspace(EXAMPLE, NAMING, POOL)
        for value in any_values() + [0, (), EXAMPLE, NAMING, POOL, (EXAMPLE, NAMING, POOL), Workspace, [space]]:
            self.assertIs(space == value, False)
            self.assertIs(space != value, True)


class ManyChangesTest(WorkspaceTest):
    def test_each_successful_call_is_one_change_even_if_nothing_differs(self):
        space = Workspace(EXAMPLE, NAMING, TIGHT)
        calls = (("rename_one", (0, "a")), ("go_to", (NAMING,)), ("give_name", (1, "b")), ("use_in", (0, 1)))
        for many, (method, arguments) in enumerate(calls * 5, 1):
            getattr(space, method)(*arguments)
            self.assertEqual(state_of(space), (EXAMPLE, NAMING, TIGHT, many))
        for many in range(19, -1, -1):
            space.undo()
            self.assertEqual(state_of(space), (EXAMPLE, NAMING, TIGHT, many))

    def test_reading_is_no_change(self):
        space = Workspace(EXAMPLE, NAMING, POOL)
        for _ in range(3):
            self.assertEqual(space, space.copy())
            self.assertEqual(state_of(space), (EXAMPLE, NAMING, POOL, 0))

    def test_a_program_of_both_limits(self):
        source = random.Random(195)
        pool = HUNDRED[:definitions.width(LARGEST) + 1]
        space = Workspace(LARGEST, random_valid_naming(source, LARGEST, pool), pool)
        states = [state_of(space)]
        for _ in range(60):
            change_somehow(source, space, states)
            self.assertEqual(state_of(space), states[-1])
            self.assertTrue(definitions.valid(*values_of(space)[:2]))


if __name__ == "__main__":
    unittest.main()

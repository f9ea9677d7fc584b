"""Tests of the module edits."""

import itertools
import random
import unittest

from renamesteps.edits import (
    add_declaration, add_scope, add_use, plan_for_use, remove_declaration, remove_scope, remove_use)
from renamesteps.errors import (
    BadNaming, MissingUse, NoDeclaration, NoScope, NotEmpty, OutOfScope, StillUsed, TooFewNames, TooLarge)
from renamesteps.programs import is_program
from tests import definitions
from tests.definitions import count
from tests.following import follow, follow_by_validity
from tests.raising import RaisingTest
from tests.samples import (
    BARE, BARE_CHAIN, BESIDE, CHAIN, CROWDED, EXAMPLE, FAR, FUNNEL, GAPS, HUNDRED, LARGEST, LINKS, PROGRAMS, SINGLE,
    WRONG_NAMINGS, any_values, random_programs, random_valid_naming, small_programs, wrong_numbers)

NAMING = ("a", "b", "b", "a")
POOL = ("a", "b", "c")
TIGHT = ("a", "b")


def some_programs(seed, many):
    return itertools.chain(PROGRAMS, small_programs(2), random_programs(seed, many))


def rows_with(program, scope, row):
    """The program with another row in the place of a scope."""
    return program[:scope] + (row,) + program[scope + 1:]


def sees(program, declaration, scope):
    """Whether the home of the declaration encloses the scope."""
    return definitions.homes(program)[declaration] in definitions.enclosing(program)[scope]


def described(program):
    """The program in other words: all scopes, declarations and uses by names that do not change with the numbers.

    A scope is named by the way to it from scope 0, a declaration by its home and its place among those of its home.
    """
    ways = [()]
    inside = {}
    for parent, _, _ in program[1:]:
        ways.append(ways[parent] + (inside.get(parent, 0),))
        inside[parent] = inside.get(parent, 0) + 1
    homes = definitions.homes(program)
    places = [(ways[home], number - homes.index(home)) for number, home in enumerate(homes)]
    return {ways[scope]: (row[1], sorted(places[use] for use in row[2])) for scope, row in enumerate(program)}


class AddUseTest(RaisingTest):
    def test_every_declaration_and_every_scope(self):
        shown = set()
        for program in some_programs(131, 10):
            for number, scope in itertools.product(range(count(program)), range(len(program))):
                parent, many, uses = program[scope]
                if not sees(program, number, scope):
                    self.assert_error(OutOfScope, scope, add_use, program, number, scope)
                    shown.add("out of scope")
                    continue
                expected = rows_with(program, scope, (parent, many, tuple(sorted(set(uses) | {number}))))
                self.assertEqual(add_use(program, number, scope), expected)
                shown.add("there already" if number in uses else "new")
        self.assertEqual(shown, {"out of scope", "there already", "new"})

    def test_the_uses_stay_ascending(self):
        program = ((-1, 4, ()),)
        for numbers in itertools.permutations(range(4)):
            later = program
            for many, number in enumerate(numbers, 1):
                later = add_use(later, number, 0)
                self.assertEqual(later, ((-1, 4, tuple(sorted(numbers[:many]))),))
                self.assertIs(is_program(later), True)

    def test_a_use_that_is_there_already(self):
        for number, scope in ((1, 0), (0, 1), (2, 1), (3, 2)):
            self.assertEqual(add_use(EXAMPLE, number, scope), EXAMPLE)

    def test_scopes_inside_beside_and_around_the_home(self):
        program = ((-1, 0, ()), (0, 1, ()), (1, 0, ()), (0, 0, ()))
        self.assertEqual(add_use(program, 0, 1)[1], (0, 1, (0,)))
        self.assertEqual(add_use(program, 0, 2)[2], (1, 0, (0,)))
        self.assert_error(OutOfScope, 0, add_use, program, 0, 0)
        self.assert_error(OutOfScope, 3, add_use, program, 0, 3)
        self.assertEqual(add_use(FAR, 0, 20)[20], (19, 0, (0,)))

    def test_numbers_that_are_none(self):
        for value in wrong_numbers(4):
            for scope in (0, 1, 3, -1, None):
                self.assert_error(NoDeclaration, value, add_use, EXAMPLE, value, scope)
        for value in wrong_numbers(3):
            for number in range(4):
                self.assert_error(NoScope, value, add_use, EXAMPLE, number, value)
        self.assert_error(NoDeclaration, 0, add_use, BARE, 0, 0)
        self.assert_error(NoDeclaration, 60, add_use, LARGEST, 60, 39)
        self.assert_error(NoScope, 40, add_use, LARGEST, 59, 40)

    def test_the_results_are_programs(self):
        source = random.Random(132)
        for program in random_programs(133, 20):
            for _ in range(10):
                if count(program):
                    number, scope = source.randrange(count(program)), source.randrange(len(program))
                    if sees(program, number, scope):
                        program = add_use(program, number, scope)
                        self.assertIs(is_program(program), True)


class RemoveUseTest(RaisingTest):
    def test_every_declaration_and_every_scope(self):
        shown = set()
        for program in some_programs(134, 10):
            for number, scope in itertools.product(range(count(program)), range(len(program))):
                parent, many, uses = program[scope]
                if number not in uses:
                    self.assert_error(MissingUse, scope, remove_use, program, number, scope)
                    shown.add(sees(program, number, scope))
                    continue
                expected = rows_with(program, scope, (parent, many, tuple(use for use in uses if use != number)))
                self.assertEqual(remove_use(program, number, scope), expected)
                self.assertIs(is_program(expected), True)
                shown.add("removed")
        self.assertEqual(shown, {True, False, "removed"})

    def test_numbers_that_are_none(self):
        for value in wrong_numbers(4):
            for scope in (0, 1, 3, -1, None):
                self.assert_error(NoDeclaration, value, remove_use, EXAMPLE, value, scope)
        for value in wrong_numbers(3):
            for number in range(4):
                self.assert_error(NoScope, value, remove_use, EXAMPLE, number, value)
        self.assert_error(NoDeclaration, 0, remove_use, BARE, 0, 0)

    def test_both_undo_each_other(self):
        for program in some_programs(135, 10):
            for number, scope in itertools.product(range(count(program)), range(len(program))):
                if number in program[scope][2]:
                    later = remove_use(program, number, scope)
                    self.assertEqual(add_use(later, number, scope), program)
                elif sees(program, number, scope):
                    later = add_use(program, number, scope)
                    self.assertEqual(remove_use(later, number, scope), program)


class AddDeclarationTest(RaisingTest):
    def test_the_last_one_of_its_scope(self):
        program = ((-1, 2, (0, 1)), (0, 1, (0, 2)), (1, 0, (1, 2)), (0, 1, (1, 3)))
        expected = {
            0: ((-1, 3, (0, 1)), (0, 1, (0, 3)), (1, 0, (1, 3)), (0, 1, (1, 4))),
            1: ((-1, 2, (0, 1)), (0, 2, (0, 2)), (1, 0, (1, 2)), (0, 1, (1, 4))),
            2: ((-1, 2, (0, 1)), (0, 1, (0, 2)), (1, 1, (1, 2)), (0, 1, (1, 4))),
            3: ((-1, 2, (0, 1)), (0, 1, (0, 2)), (1, 0, (1, 2)), (0, 2, (1, 3)))}
        for scope, later in expected.items():
            self.assertEqual(add_declaration(program, scope), later)
        self.assertEqual(add_declaration(BARE, 0), SINGLE)
        self.assertEqual(add_declaration(BARE_CHAIN, 39)[39], (38, 1, ()))

    def test_only_the_number_of_declarations_of_the_scope_differs(self):
        for program in some_programs(136, 15):
            if count(program) == 60:
                continue
            for scope in range(len(program)):
                later = add_declaration(program, scope)
                self.assertIs(is_program(later), True)
                self.assertEqual([row[1] for row in later], [row[1] + (at == scope) for at, row in enumerate(program)])
                # No scope moves, and each use is still of the same declaration.
                before, after = (
                    {way: row[1] for way, row in described(found).items()} for found in (program, later))
                self.assertEqual(after, before)

    def test_60_declarations(self):
        for program in (CROWDED, LARGEST):
            for scope in range(len(program)):
                self.assert_error(TooLarge, 60, add_declaration, program, scope)
        program = ((-1, 59, ()),)
        self.assertEqual(add_declaration(program, 0), ((-1, 60, ()),))

    def test_numbers_that_are_none(self):
        for value in wrong_numbers(3):
            self.assert_error(NoScope, value, add_declaration, EXAMPLE, value)
        for value in wrong_numbers(1):
            # Ahead of TooLarge.
            self.assert_error(NoScope, value, add_declaration, CROWDED, value)


class RemoveDeclarationTest(RaisingTest):
    def test_declarations_that_are_not_used(self):
        program = ((-1, 3, (1,)), (0, 2, (1, 3)), (0, 1, (1,)), (2, 2, (7,)))
        expected = {
            0: ((-1, 2, (0,)), (0, 2, (0, 2)), (0, 1, (0,)), (2, 2, (6,))),
            2: ((-1, 2, (1,)), (0, 2, (1, 2)), (0, 1, (1,)), (2, 2, (6,))),
            4: ((-1, 3, (1,)), (0, 1, (1, 3)), (0, 1, (1,)), (2, 2, (6,))),
            5: ((-1, 3, (1,)), (0, 2, (1, 3)), (0, 0, (1,)), (2, 2, (6,))),
            6: ((-1, 3, (1,)), (0, 2, (1, 3)), (0, 1, (1,)), (2, 1, (6,)))}
        self.assertIs(is_program(program), True)
        for number, later in expected.items():
            self.assertEqual(remove_declaration(program, number), later)
        self.assertEqual(remove_declaration(SINGLE, 0), BARE)

    def test_every_declaration(self):
        for program in some_programs(137, 15):
            for number in range(count(program)):
                users = [scope for scope, row in enumerate(program) if number in row[2]]
                if users:
                    self.assert_error(StillUsed, min(users), remove_declaration, program, number)
                    continue
                later = remove_declaration(program, number)
                self.assertIs(is_program(later), True)
                home = definitions.homes(program)[number]
                self.assertEqual([row[1] for row in later], [row[1] - (at == home) for at, row in enumerate(program)])
                for scope, row in enumerate(program):
                    self.assertEqual(later[scope][2], tuple(use - (use > number) for use in row[2]))

    def test_the_smallest_scope_that_uses_it(self):
        self.assert_error(StillUsed, 0, remove_declaration, BESIDE, 0)
        self.assert_error(StillUsed, 1, remove_declaration, CHAIN, 0)
        self.assert_error(StillUsed, 39, remove_declaration, FAR, 0)
        self.assert_error(StillUsed, 39, remove_declaration, FUNNEL, 20)

    def test_numbers_that_are_none(self):
        for value in wrong_numbers(4):
            self.assert_error(NoDeclaration, value, remove_declaration, EXAMPLE, value)
        self.assert_error(NoDeclaration, 0, remove_declaration, BARE, 0)

    def test_both_undo_each_other(self):
        for program in some_programs(138, 15):
            if count(program) < 60:
                for scope in range(len(program)):
                    later = add_declaration(program, scope)
                    added = sum(row[1] for row in program[:scope + 1])
                    self.assertEqual(remove_declaration(later, added), program)
            homes = definitions.homes(program)
            for number, home in enumerate(homes):
                last = number + 1 == len(homes) or homes[number + 1] != home
                if last and not any(number in row[2] for row in program):
                    self.assertEqual(add_declaration(remove_declaration(program, number), home), program)


class AddScopeTest(RaisingTest):
    def test_the_place_after_all_scopes_inside(self):
        program = ((-1, 1, ()), (0, 1, ()), (1, 1, (0,)), (1, 0, ()), (0, 1, (0, 3)), (4, 0, (3,)))
        expected = {
            0: program + ((0, 0, ()),),
            1: program[:4] + ((1, 0, ()), (0, 1, (0, 3)), (5, 0, (3,))),
            2: program[:3] + ((2, 0, ()), (1, 0, ()), (0, 1, (0, 3)), (5, 0, (3,))),
            3: program[:4] + ((3, 0, ()), (0, 1, (0, 3)), (5, 0, (3,))),
            4: program + ((4, 0, ()),),
            5: program + ((5, 0, ()),)}
        for scope, later in expected.items():
            self.assertEqual(add_scope(program, scope), later)
        self.assertEqual(add_scope(BARE, 0), ((-1, 0, ()), (0, 0, ())))

    def test_only_an_empty_scope_is_added(self):
        for program in some_programs(139, 20):
            if len(program) == 40:
                continue
            for scope in range(len(program)):
                later = add_scope(program, scope)
                self.assertIs(is_program(later), True)
                before, after = described(program), described(later)
                new = [way for way in after if way not in before]
                self.assertEqual([after[way] for way in new], [(0, [])])
                self.assertEqual({way: after[way] for way in before}, before)
                # It is the last scope directly inside this one.
                place = list(after).index(new[0])
                self.assertEqual(later[place][0], scope)
                self.assertEqual([at for at, row in enumerate(later) if row[0] == scope][-1], place)

    def test_40_scopes(self):
        for program in (CHAIN, BESIDE, BARE_CHAIN, LARGEST, FAR):
            for scope in range(40):
                self.assert_error(TooLarge, 40, add_scope, program, scope)
        for scope in range(39):
            self.assertEqual(len(add_scope(BARE_CHAIN[:39], scope)), 40)

    def test_numbers_that_are_none(self):
        for value in wrong_numbers(3):
            self.assert_error(NoScope, value, add_scope, EXAMPLE, value)
        for value in wrong_numbers(40):
            # Ahead of TooLarge.
            self.assert_error(NoScope, value, add_scope, LARGEST, value)


class RemoveScopeTest(RaisingTest):
    def test_scopes_that_are_empty(self):
        program = ((-1, 1, ()), (0, 0, ()), (0, 1, ()), (2, 0, ()), (2, 1, (2,)), (4, 0, (2,)), (4, 0, ()))
        expected = {
            1: ((-1, 1, ()), (0, 1, ()), (1, 0, ()), (1, 1, (2,)), (3, 0, (2,)), (3, 0, ())),
            3: ((-1, 1, ()), (0, 0, ()), (0, 1, ()), (2, 1, (2,)), (3, 0, (2,)), (3, 0, ())),
            6: program[:6]}
        for scope, later in expected.items():
            self.assertEqual(remove_scope(program, scope), later)

    def test_every_scope(self):
        shown = set()
        for program in some_programs(140, 25):
            for scope, (_, many, uses) in enumerate(program):
                inside = any(row[0] == scope for row in program)
                shown.add((scope == 0, many > 0, uses != (), inside))
                if scope == 0 or many or uses or inside:
                    self.assert_error(NotEmpty, scope, remove_scope, program, scope)
                    continue
                later = remove_scope(program, scope)
                self.assertIs(is_program(later), True)
                self.assertEqual([row[1:] for row in later], [row[1:] for row in program[:scope] + program[scope + 1:]])
                parents = [row[0] - (row[0] > scope) for row in program[:scope] + program[scope + 1:]]
                self.assertEqual([row[0] for row in later], parents)
        # All but that scope 0 has uses and no declarations.
        self.assertEqual(len(shown), 14)

    def test_each_reason_alone(self):
        self.assert_error(NotEmpty, 0, remove_scope, BARE, 0)
        self.assert_error(NotEmpty, 1, remove_scope, ((-1, 0, ()), (0, 1, ())), 1)
        self.assert_error(NotEmpty, 1, remove_scope, ((-1, 1, ()), (0, 0, (0,))), 1)
        self.assert_error(NotEmpty, 1, remove_scope, ((-1, 0, ()), (0, 0, ()), (1, 0, ())), 1)

    def test_numbers_that_are_none(self):
        for value in wrong_numbers(3):
            self.assert_error(NoScope, value, remove_scope, EXAMPLE, value)

    def test_both_undo_each_other(self):
        for program in some_programs(141, 20):
            for scope in range(len(program)):
                if len(program) < 40:
                    later = add_scope(program, scope)
                    inside = [at for at in range(len(program)) if scope in definitions.enclosing(program)[at]]
                    self.assertEqual(remove_scope(later, max(inside) + 1), program)
                parent, many, uses = program[scope]
                last = not any(row[0] in (parent, scope) for row in program[scope + 1:])
                if scope and last and not many and not uses:
                    self.assertEqual(add_scope(remove_scope(program, scope), parent), program)


class PlanForUseTest(RaisingTest):
    def check(self, program, naming, number, scope, pool, way=follow):
        plan = plan_for_use(program, naming, number, scope, pool)
        self.assertLessEqual(len(plan), 4 * count(program) * definitions.height(program))
        # Both ways to follow a plan fail if the last naming is not valid for the program without the use.
        last = way(self, program, naming, plan, pool)
        self.assertIs(definitions.valid(add_use(program, number, scope), last), True)
        self.assertEqual(plan_for_use(program, naming, number, scope, pool), plan)
        if definitions.valid(add_use(program, number, scope), naming):
            self.assertEqual(plan, ())
        return len(plan)

    def test_every_naming_of_the_example(self):
        for pool in (POOL, ("d", "c", "b", "a")):
            for naming in definitions.valid_namings(EXAMPLE, pool):
                for number, scope in itertools.product(range(4), range(3)):
                    if sees(EXAMPLE, number, scope):
                        self.check(EXAMPLE, naming, number, scope, pool, follow_by_validity)

    def test_small_programs(self):
        source = random.Random(142)
        shown = set()
        for program in itertools.chain(small_programs(2), random_programs(143, 150, scopes=8, declarations=8)):
            pool = HUNDRED[:definitions.width(program) + 1]
            naming = random_valid_naming(source, program, pool)
            for number, scope in itertools.product(range(count(program)), range(len(program))):
                if sees(program, number, scope):
                    shown.add(self.check(program, naming, number, scope, pool, follow_by_validity))
        self.assertLessEqual({0, 1}, shown)
        self.assertGreater(len(shown), 10)

    def test_large_programs(self):
        source = random.Random(144)
        longest = 0
        for program in itertools.chain(PROGRAMS, random_programs(145, 30)):
            pairs = [
                (number, scope) for number in range(count(program)) for scope in range(len(program))
                if sees(program, number, scope)]
            for more in (1, 2, 7):
                many = definitions.width(program) + more
                pool = tuple(source.sample(HUNDRED[:many], many))
                naming = random_valid_naming(source, program, pool)
                for number, scope in source.sample(pairs, min(len(pairs), 5)):
                    longest = max(longest, self.check(program, naming, number, scope, pool))
        self.assertGreater(longest, 10)

    def test_the_new_use_needs_one_name_more_than_before(self):
        # All names of the pool are needed in the innermost scope afterwards.
        program = ((-1, 3, ()), (0, 3, ()), (1, 3, (3, 4, 5)))
        self.assertEqual(definitions.width(program), 6)
        pool = HUNDRED[:7]
        source = random.Random(146)
        for _ in range(50):
            naming = random_valid_naming(source, program, pool)
            for number, scope in itertools.product(range(3), range(3)):
                self.check(program, naming, number, scope, pool, follow_by_validity)

    def test_a_naming_that_is_valid_with_the_use(self):
        source = random.Random(147)
        shown = set()
        for program in itertools.chain(PROGRAMS, random_programs(148, 40, scopes=9, declarations=10)):
            for more in (0, 1):
                pool = HUNDRED[:definitions.width(program) + more]
                naming = random_valid_naming(source, program, pool)
                for number, scope in itertools.product(range(min(count(program), 9)), range(min(len(program), 9))):
                    if sees(program, number, scope) and definitions.valid(add_use(program, number, scope), naming):
                        self.assertEqual(plan_for_use(program, naming, number, scope, pool), ())
                        shown.add((more, number in program[scope][2]))
        self.assertEqual(shown, set(itertools.product((0, 1), (False, True))))

    def test_a_use_that_is_there_already(self):
        for pool in (TIGHT, POOL):
            for number, scope in ((1, 0), (0, 1), (2, 1), (3, 2)):
                self.assertEqual(plan_for_use(EXAMPLE, NAMING, number, scope, pool), ())

    def test_too_few_names(self):
        self.assert_error(TooFewNames, 3, plan_for_use, EXAMPLE, NAMING, 1, 1, TIGHT)
        source = random.Random(149)
        shown = 0
        for program in itertools.chain(PROGRAMS, random_programs(150, 40, scopes=9, declarations=10)):
            width = definitions.width(program)
            pool = HUNDRED[:width]
            naming = random_valid_naming(source, program, pool)
            for number, scope in itertools.product(range(min(count(program), 9)), range(min(len(program), 9))):
                if sees(program, number, scope) and not definitions.valid(add_use(program, number, scope), naming):
                    self.assert_error(
                        TooFewNames, width + 1, plan_for_use, program, naming, number, scope, pool)
                    shown += 1
        self.assertGreater(shown, 20)

    def test_too_few_names_also_if_the_new_use_does_not_widen_the_program(self):
        # Declaration 0 is used in the scope inside, where it conflicts with declaration 2 only.
        program = ((-1, 2, ()), (0, 1, ()))
        naming = ("a", "b", "a")
        self.assertEqual(definitions.width(add_use(program, 0, 1)), 2)
        self.assert_error(TooFewNames, 3, plan_for_use, program, naming, 0, 1, TIGHT)
        self.assertEqual(plan_for_use(program, ("b", "a", "a"), 0, 1, TIGHT), ())

    def test_no_declaration_ahead_of_all_else(self):
        for value in wrong_numbers(4):
            for naming, scope, pool in itertools.product((NAMING, None, ()), (1, 3, None), (POOL, TIGHT)):
                self.assert_error(NoDeclaration, value, plan_for_use, EXAMPLE, naming, value, scope, pool)
        self.assert_error(NoDeclaration, 0, plan_for_use, BARE, (), 0, 0, POOL)

    def test_no_scope_ahead_of_bad_naming(self):
        for value in wrong_numbers(3):
            for naming, number, pool in itertools.product((NAMING, None, ()), range(4), (POOL, TIGHT)):
                self.assert_error(NoScope, value, plan_for_use, EXAMPLE, naming, number, value, pool)

    def test_bad_naming_ahead_of_out_of_scope_and_too_few_names(self):
        for value in WRONG_NAMINGS + tuple(any_values()):
            for (number, scope), pool in itertools.product(((1, 1), (0, 1), (2, 0), (3, 1)), (POOL, TIGHT, ("a",))):
                self.assert_error(BadNaming, value, plan_for_use, EXAMPLE, value, number, scope, pool)

    def test_out_of_scope_ahead_of_too_few_names(self):
        for pool in (TIGHT, POOL):
            for number, scope in ((2, 0), (2, 2), (3, 0), (3, 1)):
                self.assert_error(OutOfScope, scope, plan_for_use, EXAMPLE, NAMING, number, scope, pool)

    def test_programs_of_both_limits(self):
        source = random.Random(151)
        for program in (LARGEST, GAPS, LINKS):
            pool = HUNDRED[:definitions.width(program) + 1]
            for _ in range(4):
                naming = random_valid_naming(source, program, pool)
                for number in range(0, count(program), 7):
                    inside = [scope for scope in range(len(program)) if sees(program, number, scope)]
                    self.check(program, naming, number, max(inside), pool)


if __name__ == "__main__":
    unittest.main()

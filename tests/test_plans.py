"""Tests of the module plans."""

import itertools
import random
import unittest

from renamesteps.errors import BadName, BadNaming, BadPlan, NoDeclaration, TooFewNames, Unsafe
from renamesteps.plans import find_plan, plan_to_name, run_plan, shows_plan
from tests import definitions
from tests.definitions import count
from tests.following import follow, follow_by_validity
from tests.samples import (
    BARE, BARE_CHAIN, CROWDED, EXAMPLE, FUNNEL, HUNDRED, LINKS, PROGRAMS, SINGLE, WRONG_NAMINGS, any_values,
    random_programs, random_valid_naming, small_programs, wrong_numbers)

NAMING = ("a", "b", "b", "a")
GOAL = ("c", "b", "b", "c")
POOL = ("a", "b", "c")
PLAN = ((3, "c"), (0, "c"))

# Values that are no pair of a number of a declaration of EXAMPLE and a name.
WRONG_PAIRS = (
    (), (0,), ("c",), (0, "c", "c"), (4, "c"), (-1, "c"), (True, "c"), (False, "c"), ("0", "c"), (None, "c"), ("c", 0),
    (0, "C"), (0, ""), (0, "abcdefghi"), (0, None), (0, 0), (0, b"c"), (0, ("c",)), ((0,), "c"), [0, "c"], "0c", 0,
    None)


def long_plan(program, naming, pool, many, source):
    """A plan of so many safe renames with names of the pool, and the naming after it."""
    conflicts = definitions.conflicts(program)
    plan = []
    while len(plan) < many:
        number, name = source.randrange(len(naming)), source.choice(pool)
        taken = [naming[other] for other in range(len(naming)) if (number, other) in conflicts]
        if name != naming[number] and name not in taken:
            plan.append((number, name))
            naming = definitions.renamed(naming, number, name)
    return tuple(plan), naming


class RunPlanTest(unittest.TestCase):
    def assert_unsafe(self, program, naming, plan, index):
        with self.assertRaises(Unsafe) as context:
            run_plan(program, naming, plan)
        self.assertEqual(context.exception.index, index)

    def assert_bad(self, value):
        with self.subTest(kind=type(value)), self.assertRaises(BadPlan) as context:
            run_plan(EXAMPLE, NAMING, value)
        self.assertIs(context.exception.plan, value)

    def test_the_empty_plan(self):
        self.assertEqual(run_plan(EXAMPLE, NAMING, ()), NAMING)
        self.assertEqual(run_plan(BARE, (), ()), ())

    def test_plans(self):
        self.assertEqual(run_plan(EXAMPLE, NAMING, ((0, "xyz"),)), ("xyz", "b", "b", "a"))
        self.assertEqual(run_plan(EXAMPLE, NAMING, ((0, "c"), (1, "a"), (2, "a"), (0, "b"))), ("b", "a", "a", "a"))
        self.assertEqual(run_plan(EXAMPLE, NAMING, ((3, "b"), (3, "a"))), NAMING)

    def test_a_rename_to_the_name_that_the_declaration_has(self):
        self.assert_unsafe(EXAMPLE, NAMING, ((0, "a"),), 0)
        self.assert_unsafe(EXAMPLE, NAMING, ((0, "c"), (0, "c")), 1)
        self.assert_unsafe(SINGLE, ("a",), ((0, "b"), (0, "a"), (0, "a")), 2)

    def test_a_rename_that_is_not_safe_at_each_place(self):
        self.assert_unsafe(EXAMPLE, NAMING, ((0, "b"), (3, "c"), (3, "d")), 0)
        self.assert_unsafe(EXAMPLE, NAMING, ((3, "c"), (0, "b"), (3, "d")), 1)
        self.assert_unsafe(EXAMPLE, NAMING, ((3, "c"), (3, "d"), (0, "b")), 2)

    def test_the_first_of_several_that_are_not_safe(self):
        self.assert_unsafe(EXAMPLE, NAMING, ((3, "c"), (0, "b"), (1, "a"), (2, "a")), 1)

    def test_names_that_are_given_on_the_way_count(self):
        self.assert_unsafe(EXAMPLE, NAMING, ((0, "c"), (1, "c")), 1)
        self.assertEqual(run_plan(EXAMPLE, NAMING, ((0, "c"), (1, "a"))), ("c", "a", "b", "a"))

    def test_wrong_pairs(self):
        for pair in WRONG_PAIRS + tuple(any_values()):
            self.assert_bad((pair,))
            self.assert_bad(PLAN + (pair,))
            self.assert_bad((pair,) + PLAN)

    def test_bad_plan_ahead_of_unsafe(self):
        for pair in WRONG_PAIRS:
            self.assert_bad(((0, "b"), pair))
            self.assert_bad(((0, "b"),) * 3 + (pair,))
            self.assert_bad((pair, (0, "b")))

    def test_values_of_any_kind(self):
        for value in any_values() + [0, -1, "c", list(PLAN), [], (0, "c"), dict(PLAN)]:
            self.assert_bad(value)
        for value in any_values():
            self.assert_bad(((0, value),))
            self.assert_bad(((value, "c"),))

    def test_no_declaration_to_rename(self):
        with self.assertRaises(BadPlan):
            run_plan(BARE, (), ((0, "a"),))

    def test_plans_of_20000_renames_and_more(self):
        program = ((-1, 1, ()), (0, 1, (0,)))
        plan = ((0, "c"), (1, "a"), (0, "b"), (1, "c"), (0, "a"), (1, "b")) * 3500
        self.assertEqual(run_plan(program, ("a", "b"), plan), ("a", "b"))
        self.assertEqual(run_plan(program, ("a", "b"), plan[:20000]), ("c", "a"))
        self.assert_unsafe(program, ("a", "b"), plan[:19999] + ((0, "b"),), 19999)

    def test_large_programs(self):
        source = random.Random(61)
        for program in random_programs(62, 12):
            if count(program) == 0:
                continue
            pool = HUNDRED[:definitions.width(program) + 2]
            naming = random_valid_naming(source, program, pool)
            plan, last = long_plan(program, naming, pool, 60, source)
            self.assertEqual(run_plan(program, naming, plan), last)
            at = source.randrange(61)
            middle = run_plan(program, naming, plan[:at])
            number = source.randrange(count(program))
            self.assert_unsafe(program, naming, plan[:at] + ((number, middle[number]),) + plan[at:], at)

    def test_all_short_plans_of_small_programs(self):
        for program in random_programs(63, 8, scopes=4, declarations=3):
            pairs = list(itertools.product(range(count(program)), "abc"))
            for naming in definitions.valid_namings(program, "abc")[:5]:
                for plan in itertools.product(pairs, repeat=2):
                    middle = definitions.renamed(naming, *plan[0])
                    if not definitions.safe(program, naming, *plan[0]):
                        self.assert_unsafe(program, naming, plan, 0)
                    elif not definitions.safe(program, middle, *plan[1]):
                        self.assert_unsafe(program, naming, plan, 1)
                    else:
                        self.assertEqual(run_plan(program, naming, plan), definitions.renamed(middle, *plan[1]))


class ShowsPlanTest(unittest.TestCase):
    def check(self, start, goal, pool, value, expected):
        self.assertIs(shows_plan(EXAMPLE, start, goal, pool, value), expected, value)

    def test_plans_that_lead_there(self):
        self.check(NAMING, GOAL, POOL, PLAN, True)
        self.check(NAMING, GOAL, POOL, ((3, "b"), (3, "c"), (0, "c")), True)
        self.check(NAMING, NAMING, POOL, ((3, "b"), (3, "a")), True)

    def test_the_empty_plan(self):
        self.check(NAMING, NAMING, POOL, (), True)
        self.check(NAMING, GOAL, POOL, (), False)
        self.assertIs(shows_plan(BARE, (), (), (), ()), True)

    def test_plans_that_lead_elsewhere(self):
        self.check(NAMING, GOAL, POOL, PLAN[:1], False)
        self.check(NAMING, GOAL, POOL, PLAN[1:], False)
        self.check(NAMING, GOAL, POOL, PLAN + ((3, "a"),), False)
        self.check(NAMING, NAMING, POOL, PLAN, False)

    def test_names_out_of_the_pool(self):
        plan = ((3, "d"), (3, "c"), (0, "c"))
        self.check(NAMING, GOAL, POOL, plan, False)
        self.check(NAMING, GOAL, POOL + ("d",), plan, True)
        self.check(NAMING, NAMING, ("a", "b"), ((0, "c"), (0, "a")), False)

    def test_plans_that_are_not_safe_on_the_way(self):
        self.check(NAMING, ("b", "a", "a", "a"), POOL, ((0, "b"), (1, "a"), (2, "a")), False)
        self.check(NAMING, ("b", "a", "a", "a"), POOL, ((0, "c"), (1, "a"), (2, "a"), (0, "b")), True)
        self.check(NAMING, GOAL, POOL, PLAN + ((0, "c"),), False)
        self.check(NAMING, GOAL, POOL, ((3, "a"),) + PLAN, False)

    def test_values_of_any_kind(self):
        for goal in (NAMING, GOAL):
            for value in any_values() + [0, -1, "c", list(PLAN), [], dict(PLAN)]:
                self.check(NAMING, goal, POOL, value, False)
            for pair in WRONG_PAIRS + tuple(any_values()):
                self.check(NAMING, goal, POOL, (pair,), False)
                self.check(NAMING, goal, POOL, PLAN + (pair,), False)
        for value in any_values():
            self.check(NAMING, GOAL, POOL, PLAN + ((0, value),), False)
            self.check(NAMING, GOAL, POOL, PLAN + ((value, "c"),), False)

    def test_large_programs(self):
        source = random.Random(64)
        for program in random_programs(65, 12):
            if count(program) == 0:
                continue
            pool = HUNDRED[:definitions.width(program) + 1]
            naming = random_valid_naming(source, program, pool)
            plan, goal = long_plan(program, naming, pool, 60, source)
            self.assertIs(shows_plan(program, naming, goal, pool, plan), True)
            self.assertIs(shows_plan(program, naming, goal, pool, plan[:-1]), False)
            self.assertIs(shows_plan(program, naming, goal, pool, plan[:30] + plan[29:]), False)


class FindPlanTest(unittest.TestCase):
    def check(self, program, start, goal, pool, way=follow):
        plan = find_plan(program, start, goal, pool)
        self.assertLessEqual(len(plan), 4 * count(program) * definitions.height(program))
        self.assertEqual(way(self, program, start, plan, pool), goal)
        self.assertIs(shows_plan(program, start, goal, pool, plan), True)
        self.assertEqual(find_plan(program, start, goal, pool), plan)

    def test_large_programs(self):
        source = random.Random(66)
        for program in itertools.chain(PROGRAMS, random_programs(67, 30)):
            for more in (1, 2, 7):
                many = definitions.width(program) + more
                pool = tuple(source.sample(HUNDRED[:many], many))
                start, goal = (random_valid_naming(source, program, pool) for _ in range(2))
                self.check(program, start, goal, pool)

    def test_two_names_exchanged(self):
        self.check(EXAMPLE, NAMING, ("b", "a", "a", "b"), POOL, follow_by_validity)
        self.check(LINKS, ("a", "b") * 20, ("b", "a") * 20, POOL)
        for program in (CROWDED, FUNNEL):
            many = count(program)
            self.check(program, HUNDRED[:many], HUNDRED[many - 1::-1], HUNDRED[:many + 1])

    def test_all_names_moved_on(self):
        self.check(CROWDED, HUNDRED[:60], HUNDRED[1:60] + HUNDRED[:1], HUNDRED[:61])
        self.check(CROWDED, HUNDRED[:60], HUNDRED[1:61], HUNDRED[:61])
        self.check(CROWDED, HUNDRED[:60], HUNDRED[20:80], HUNDRED[:80])

    def test_start_equal_to_goal(self):
        source = random.Random(68)
        for program in itertools.chain(PROGRAMS, random_programs(69, 10)):
            pool = HUNDRED[:definitions.width(program) + 1]
            naming = random_valid_naming(source, program, pool)
            self.check(program, naming, naming, pool)
            self.assertEqual(find_plan(program, naming, naming, pool), ())

    def test_programs_without_declarations(self):
        for program in (BARE, BARE_CHAIN):
            self.assertEqual(find_plan(program, (), (), ("a",)), ())

    def test_bad_naming(self):
        for value in WRONG_NAMINGS + tuple(any_values()):
            for pool in (POOL, ("a", "b"), ("a",), ()):
                with self.subTest(kind=type(value)), self.assertRaises(BadNaming) as context:
                    find_plan(EXAMPLE, value, NAMING, pool)
                self.assertIs(context.exception.naming, value)
        for value in WRONG_NAMINGS + tuple(any_values()):
            for pool in (POOL, ("a", "b")):
                with self.subTest(kind=type(value)), self.assertRaises(BadNaming) as context:
                    find_plan(EXAMPLE, NAMING, value, pool)
                self.assertIs(context.exception.naming, value)

    def test_bad_naming_with_start_ahead_of_goal(self):
        for start, goal in itertools.product(WRONG_NAMINGS + tuple(any_values()), WRONG_NAMINGS + (None, [], ("c",))):
            with self.assertRaises(BadNaming) as context:
                find_plan(EXAMPLE, start, goal, POOL)
            self.assertIs(context.exception.naming, start)

    def test_too_few_names(self):
        source = random.Random(70)
        for program in itertools.chain(PROGRAMS, random_programs(71, 20)):
            width = definitions.width(program)
            pool = HUNDRED[:width]
            start, goal = (random_valid_naming(source, program, pool) for _ in range(2))
            for naming in (start, goal):
                with self.assertRaises(TooFewNames) as context:
                    find_plan(program, start, naming, pool)
                self.assertEqual(context.exception.needed, width + 1)


class PlanToNameTest(unittest.TestCase):
    def check(self, program, naming, declaration, name, pool, way=follow):
        plan = plan_to_name(program, naming, declaration, name, pool)
        self.assertIs(type(plan), tuple)
        self.assertLessEqual(len(plan), 4 * count(program) * definitions.height(program))
        self.assertEqual(way(self, program, naming, plan, pool)[declaration], name)
        self.assertEqual(plan_to_name(program, naming, declaration, name, pool), plan)

    def test_every_declaration_and_every_name(self):
        for pool in (POOL, ("d", "c", "b", "a")):
            for naming in definitions.valid_namings(EXAMPLE, pool):
                for number, name in itertools.product(range(4), pool):
                    self.check(EXAMPLE, naming, number, name, pool, follow_by_validity)

    def test_every_declaration_and_every_name_of_small_programs(self):
        for program in itertools.chain(small_programs(2), random_programs(72, 15, scopes=6, declarations=6)):
            pool = HUNDRED[:definitions.width(program) + 1]
            naming = random_valid_naming(random.Random(73), program, pool)
            for number, name in itertools.product(range(count(program)), pool):
                self.check(program, naming, number, name, pool, follow_by_validity)

    def test_large_programs(self):
        source = random.Random(74)
        for program in itertools.chain(PROGRAMS, random_programs(75, 20)):
            if count(program) == 0:
                continue
            for more in (1, 4):
                many = definitions.width(program) + more
                pool = tuple(source.sample(HUNDRED[:many], many))
                naming = random_valid_naming(source, program, pool)
                for _ in range(6):
                    self.check(program, naming, source.randrange(count(program)), source.choice(pool), pool)

    def test_a_name_that_the_declaration_can_be_given_at_once(self):
        self.assertEqual(plan_to_name(EXAMPLE, NAMING, 0, "c", POOL), ((0, "c"),))
        for number, name in enumerate(("a", "b", "c", "b")):
            self.assertEqual(plan_to_name(EXAMPLE, ("a", "b", "c", "b"), number, name, POOL), ())

    def assert_error(self, error, field, value, *arguments):
        with self.subTest(kind=type(value)), self.assertRaises(error) as context:
            plan_to_name(*arguments)
        self.assertIs(vars(context.exception)[field], value)

    def test_no_declaration_ahead_of_all_else(self):
        for value in wrong_numbers(4):
            for naming, name, pool in itertools.product((NAMING, None, ()), ("a", "b", "d", None), (POOL, ("a", "b"))):
                self.assert_error(NoDeclaration, "declaration", value, EXAMPLE, naming, value, name, pool)
        self.assert_error(NoDeclaration, "declaration", 0, BARE, (), 0, "a", ("a",))

    def test_bad_naming_ahead_of_bad_name_and_too_few_names(self):
        for value in WRONG_NAMINGS + tuple(any_values()):
            for name, pool in itertools.product(("a", "b", "d", None), (POOL, ("a", "b"), ("a",))):
                self.assert_error(BadNaming, "naming", value, EXAMPLE, value, 0, name, pool)

    def test_bad_name_ahead_of_too_few_names(self):
        for value in any_values() + ["d", "aa", "ab", 0, (), ("a",), ["a"]]:
            for pool in (POOL, ("a", "b")):
                self.assert_error(BadName, "name", value, EXAMPLE, NAMING, 0, value, pool)
        self.assert_error(BadName, "name", "c", EXAMPLE, NAMING, 0, "c", ("a", "b"))

    def test_too_few_names_also_if_the_declaration_has_the_name(self):
        source = random.Random(76)
        for program in itertools.chain(PROGRAMS, random_programs(77, 20)):
            width = definitions.width(program)
            pool = HUNDRED[:width]
            naming = random_valid_naming(source, program, pool)
            for number in range(min(count(program), 5)):
                for name in (naming[number], pool[0], pool[-1]):
                    with self.assertRaises(TooFewNames) as context:
                        plan_to_name(program, naming, number, name, pool)
                    self.assertEqual(context.exception.needed, width + 1)


if __name__ == "__main__":
    unittest.main()

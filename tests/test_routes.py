"""Tests of the module routes."""

import collections
import itertools
import random
import unittest

from renamesteps.errors import BadNaming, TooMany
from renamesteps.parts import frozen_declarations, full_scopes, is_free, parts_of
from renamesteps.plans import find_plan
from renamesteps.routes import find_route, reachable_namings, shows_route
from tests import definitions
from tests.definitions import count, named
from tests.following import follow, follow_by_validity
from tests.held import (
    FIVE, HELD, HELD_GOAL, HELD_NAMING, LOOSER, MANY, MANY_NAMING, MORE, MORE_NAMING, SPACIOUS, SPACIOUS_NAMING, THREE,
    THREE_NAMING, exchanged, grown, with_names)
from tests.samples import (
    BARE, BARE_CHAIN, CROWDED, EXAMPLE, FUNNEL, HUNDRED, LARGEST, LINKS, PROGRAMS, SINGLE, WRONG_NAMINGS, any_values,
    beside, random_programs, random_valid_naming, small_programs, wrong_numbers)

NAMING = ("a", "b", "b", "a")
POOL = ("a", "b", "c")
TIGHT = ("a", "b")


def agreeing_namings(program, naming, pool):
    """All valid namings with names of the pool in which the frozen declarations have the same names."""
    frozen = definitions.frozen(program, len(pool))
    return [
        other for other in definitions.valid_namings(program, pool)
        if all(other[number] == naming[number] for number in frozen)]


class ReachableNamingsTest(unittest.TestCase):
    def test_a_part_of_one_declaration(self):
        self.assertEqual(reachable_namings(EXAMPLE, NAMING, (3,), TIGHT), (("a",), ("b",)))
        self.assertEqual(reachable_namings(EXAMPLE, NAMING, (3,), ("b", "c", "a")), (("a",), ("b",), ("c",)))
        self.assertEqual(reachable_namings(SINGLE, ("a",), (0,), ("a", "b")), (("a",), ("b",)))
        # A declaration that conflicts with a frozen one.
        program = ((-1, 1, ()), (0, 1, (0,)), (0, 2, (0,)))
        self.assertEqual(reachable_namings(program, ("b", "c", "a", "c"), (1,), ("c", "b", "a")), (("a",), ("c",)))

    def test_parts_of_many_declarations(self):
        self.assertEqual(reachable_namings(HELD, HELD_NAMING, (0, 1), POOL), (("a", "b"),))
        self.assertEqual(reachable_namings(HELD, HELD_GOAL, (0, 1), POOL), (("b", "a"),))
        naming = HELD_NAMING + ("b",)
        self.assertEqual(reachable_namings(LOOSER, naming, (0, 1, 8), POOL), (("a", "b", "b"), ("a", "b", "c")))
        self.assertEqual(
            reachable_namings(EXAMPLE, NAMING, (0, 1, 2), POOL),
            tuple(row for row in itertools.product(POOL, repeat=3) if row[0] not in row[1:]))

    def test_the_names_are_sorted_and_not_in_the_order_of_the_pool(self):
        for pool in itertools.permutations(FIVE):
            found = reachable_namings(SPACIOUS, SPACIOUS_NAMING, (5, 6, 7), pool)
            self.assertEqual(found, tuple(itertools.permutations("bcde", 3)))

    def test_declarations_outside_of_the_part_keep_their_names(self):
        # With another name of declaration 0, the names of the others would be others, too.
        naming = with_names(SPACIOUS_NAMING, {0: "e", 4: "a"})
        self.assertEqual(
            reachable_namings(SPACIOUS, naming, (5, 6, 7), FIVE), tuple(itertools.permutations("abcd", 3)))

    def test_most_exactly_met_and_exceeded_by_one(self):
        cases = (
            (EXAMPLE, NAMING, (3,), TIGHT, 2), (EXAMPLE, NAMING, (3,), POOL, 3), (EXAMPLE, NAMING, (0, 1, 2), POOL, 12),
            (LOOSER, HELD_NAMING + ("b",), (0, 1, 8), POOL, 2), (SPACIOUS, SPACIOUS_NAMING, (5, 6, 7), FIVE, 24))
        for program, naming, part, pool, many in cases:
            for most in (many, many + 1, 2 * many, 10 ** 9):
                self.assertEqual(len(reachable_namings(program, naming, part, pool, most=most)), many)
            for most in range(1, many):
                with self.assertRaises(TooMany) as context:
                    reachable_namings(program, naming, part, pool, most=most)
                self.assertEqual(context.exception.most, most)
        self.assertEqual(reachable_namings(HELD, HELD_NAMING, (0, 1), POOL, most=1), (("a", "b"),))

    def test_the_default_of_most(self):
        self.assertEqual(len(reachable_namings(MANY, MANY_NAMING, (0, 52), HUNDRED[:51])), 2000)
        # The last declaration has one name more, and the first one has not: 40 * 51 namings.
        pool = HUNDRED[:52]
        self.assertEqual(len(reachable_namings(MORE, MORE_NAMING, (0, 53), pool, most=2040)), 2040)
        with self.assertRaises(TooMany) as context:
            reachable_namings(MORE, MORE_NAMING, (0, 53), pool)
        self.assertEqual(context.exception.most, 2000)

    def test_a_search_of_its_own(self):
        shown = set()
        source = random.Random(101)
        programs = itertools.chain(small_programs(2), random_programs(102, 500, scopes=8, declarations=7))
        for program in itertools.chain(programs, [HELD, LOOSER]):
            width = definitions.width(program)
            for many in (width, width + 1):
                pool = tuple(source.sample(HUNDRED[:many], many))
                naming = random_valid_naming(source, program, pool)
                for part in definitions.parts(program, many):
                    if many ** len(part) > 300:
                        continue
                    expected = definitions.reachable(program, naming, part, pool)
                    self.assertEqual(reachable_namings(program, naming, part, pool), expected)
                    self.assertIn(named(naming, part), expected)
                    shown.add((definitions.free(program, part, many), len(part) > 1, many == width))
        self.assertLessEqual(set(itertools.product((False, True), (False, True), (True,))), shown)

    def test_the_kinds_of_the_result(self):
        found = reachable_namings(EXAMPLE, NAMING, (0, 1, 2), POOL)
        self.assertEqual({type(row) for row in found} | {type(found)}, {tuple})
        self.assertEqual({type(name) for row in found for name in row}, {str})

    def test_large_programs(self):
        with self.assertRaises(TooMany):
            reachable_namings(CROWDED, HUNDRED[:60], tuple(range(60)), HUNDRED[:80])
        with self.assertRaises(TooMany):
            reachable_namings(LINKS, ("a", "b") * 20, tuple(range(40)), POOL)
        seven = beside(*[HELD] * 7)
        for at in range(7):
            part = (8 * at, 8 * at + 1)
            self.assertEqual(reachable_namings(seven, HELD_NAMING * 7, part, POOL, most=1), (("a", "b"),))


class FindRouteTest(unittest.TestCase):
    def check_plan(self, program, start, goal, pool, way=follow, **most):
        route = find_route(program, start, goal, pool, **most)
        self.assertEqual([type(route), route[0], len(route)], [tuple, "plan", 2])
        self.assertEqual(way(self, program, start, route[1], pool), goal)
        self.assertIs(shows_route(program, start, goal, pool, route), True)
        self.assertEqual(find_route(program, start, goal, pool, **most), route)
        return route[1]

    def check_too_many(self, program, start, goal, pool, most):
        with self.assertRaises(TooMany) as context:
            find_route(program, start, goal, pool, most=most)
        self.assertEqual(context.exception.most, most)

    def test_frozen(self):
        self.assertEqual(find_route(EXAMPLE, NAMING, ("b", "a", "a", "b"), TIGHT), ("frozen", 0, 0))
        # The smallest declaration that differs is not the smallest frozen one.
        program = ((-1, 2, ()), (0, 1, (0,)))
        self.assertEqual(find_route(program, ("a", "b", "b"), ("b", "a", "a"), TIGHT), ("frozen", 0, 0))
        program = ((-1, 0, ()), (0, 2, ()), (0, 2, ()), (0, 2, ()))
        self.assertEqual(find_route(program, TIGHT * 3, TIGHT * 2 + ("b", "a"), TIGHT), ("frozen", 4, 3))
        self.assertEqual(find_route(program, TIGHT * 3, TIGHT + ("b", "a") * 2, TIGHT), ("frozen", 2, 2))

    def test_the_smallest_full_scope(self):
        # The home of the declaration is not full, and of the scopes inside it the second and the third one are.
        program = ((-1, 1, ()), (0, 1, (0,)), (0, 2, (0,)), (0, 2, (0,)))
        self.assertEqual(full_scopes(program, POOL), (2, 3))
        start = ("a", "b", "b", "c", "b", "c")
        self.assertEqual(find_route(program, start, ("b", "a", "a", "c", "a", "c"), POOL), ("frozen", 0, 2))
        self.assertEqual(find_route(program, start, ("a", "b", "b", "c", "c", "b"), POOL), ("frozen", 4, 3))

    def test_closed(self):
        self.assertEqual(find_route(HELD, HELD_NAMING, HELD_GOAL, POOL), ("closed", (0, 1), (("a", "b"),)))
        self.assertEqual(find_route(HELD, HELD_GOAL, HELD_NAMING, POOL), ("closed", (0, 1), (("b", "a"),)))
        pool = ("c", "b", "a")
        start, goal = HELD_NAMING + ("c",), HELD_GOAL + ("c",)
        expected = ("closed", (0, 1, 8), (("a", "b", "b"), ("a", "b", "c")))
        self.assertEqual(find_route(LOOSER, start, goal, pool), expected)
        self.assertEqual(find_route(LOOSER, start, goal, pool, most=2), expected)

    def test_too_many_ahead_of_closed(self):
        start, goal = HELD_NAMING + ("c",), HELD_GOAL + ("c",)
        self.check_too_many(LOOSER, start, goal, POOL, 1)
        # Also where the way is short.
        self.check_too_many(LOOSER, start, HELD_NAMING + ("b",), POOL, 1)
        self.assertEqual(find_route(LOOSER, start, HELD_NAMING + ("b",), POOL, most=2), ("plan", ((8, "b"),)))

    def test_most_of_a_part_that_is_not_free(self):
        goal = with_names(SPACIOUS_NAMING, {5: "c", 6: "b"})
        self.check_plan(SPACIOUS, SPACIOUS_NAMING, goal, FIVE, most=24)
        for most in (1, 2, 23):
            self.check_too_many(SPACIOUS, SPACIOUS_NAMING, goal, FIVE, most)

    def test_the_parts_of_these_tests_are_not_free(self):
        for program, pool, part in (
                (HELD, POOL, (0, 1)), (LOOSER, POOL, (0, 1, 8)), (SPACIOUS, FIVE, (5, 6, 7)),
                (THREE, ("a", "b", "c", "d"), (0, 1, 2)), (MANY, HUNDRED[:51], (0, 52)), (MORE, HUNDRED[:52], (0, 53))):
            self.assertEqual(parts_of(program, pool), (part,))
            self.assertIs(is_free(program, part, pool), False)

    def test_the_default_of_most(self):
        self.check_plan(MANY, MANY_NAMING, with_names(MANY_NAMING, {52: "ab"}), HUNDRED[:51])
        self.check_plan(MANY, MANY_NAMING, with_names(MANY_NAMING, {52: "ab"}), HUNDRED[:51], most=2000)
        self.check_too_many(MANY, MANY_NAMING, with_names(MANY_NAMING, {52: "ab"}), HUNDRED[:51], 1999)
        with self.assertRaises(TooMany) as context:
            find_route(MORE, MORE_NAMING, with_names(MORE_NAMING, {53: "ab"}), HUNDRED[:52])
        self.assertEqual(context.exception.most, 2000)

    def test_frozen_ahead_of_too_many_and_closed(self):
        program = beside(HELD, EXAMPLE, LOOSER)
        start = HELD_NAMING + ("a", "b", "b", "a") + HELD_NAMING + ("c",)
        goal = HELD_GOAL + ("a", "b", "b", "b") + HELD_NAMING + ("b",)
        # The frozen declaration that differs stands behind the parts that differ.
        goal = with_names(goal, {18: "b", 19: "a"})
        self.assertEqual(frozen_declarations(program, POOL)[-2:], (18, 19))
        for most in (1, 2, 2000):
            self.assertEqual(find_route(program, start, goal, POOL, most=most), ("frozen", 18, 13))

    def test_the_first_part_that_is_not_free_and_differs(self):
        program = beside(LOOSER, HELD, LOOSER)
        start = HELD_NAMING + ("c",) + HELD_NAMING + HELD_NAMING + ("c",)
        parts = ((0, 1, 8), (9, 10), (17, 18, 25))
        self.assertEqual(parts_of(program, POOL), parts)
        middle = HELD_NAMING + ("c",) + HELD_GOAL + HELD_GOAL + ("c",)
        # The first part agrees: it is left alone, although it has more reachable namings than 1.
        self.assertEqual(find_route(program, start, middle, POOL, most=1), ("closed", (9, 10), (("a", "b"),)))
        last = HELD_NAMING + ("c",) + HELD_NAMING + HELD_GOAL + ("c",)
        self.check_too_many(program, start, last, POOL, 1)
        closed = ("closed", (17, 18, 25), (("a", "b", "b"), ("a", "b", "c")))
        self.assertEqual(find_route(program, start, last, POOL), closed)
        # The first part differs and has a way. With too small a number it comes first, else the second part does.
        both = HELD_NAMING + ("b",) + HELD_GOAL + HELD_GOAL + ("c",)
        self.check_too_many(program, start, both, POOL, 1)
        self.assertEqual(find_route(program, start, both, POOL, most=2), ("closed", (9, 10), (("a", "b"),)))
        # A part behind the closed one has too many.
        self.assertEqual(find_route(program, start, middle, POOL, most=1)[1], (9, 10))

    def test_parts_in_which_both_namings_agree_are_left_alone(self):
        program = beside(LOOSER, ((-1, 2, ()),), LOOSER, ((-1, 2, ()),))
        start = HELD_NAMING + ("c", "a", "b") + HELD_NAMING + ("c", "b", "c")
        goal = HELD_NAMING + ("b", "b", "a") + HELD_NAMING + ("c", "b", "c")
        plan = self.check_plan(program, start, goal, POOL)
        self.assertEqual({number for number, _ in plan}, {8, 9, 10})
        goal = HELD_NAMING + ("c", "b", "a") + HELD_NAMING + ("c", "c", "a")
        plan = self.check_plan(program, start, goal, POOL, most=1)
        self.assertEqual({number for number, _ in plan}, {9, 10, 20, 21})

    def test_free_parts_with_more_reachable_namings_than_most(self):
        self.check_plan(EXAMPLE, NAMING, ("a", "b", "b", "b"), TIGHT, most=1)
        self.check_plan(EXAMPLE, NAMING, ("b", "a", "c", "b"), POOL, most=1)
        # A free part beside a full scope: eight declarations, and nine names.
        program = ((-1, 0, ()), (0, 9, ()), (0, 8, ()))
        pool = HUNDRED[:9]
        start, goal = pool + pool[:8], pool + pool[7::-1]
        self.assertEqual(parts_of(program, pool), (tuple(range(9, 17)),))
        for most in (1, 2000):
            self.check_plan(program, start, goal, pool, most=most)

    def test_a_free_part_whose_declarations_have_homes_in_several_scopes(self):
        row = ((-1, 0, ()), (0, 1, ()), (1, 1, (0,)), (2, 0, ()), (3, 1, (1,)), (0, 3, ()))
        self.check_plan(row, ("a", "b", "a", "a", "b", "c"), ("b", "a", "b", "a", "b", "c"), POOL, follow_by_validity)

    def test_start_equal_to_goal(self):
        source = random.Random(103)
        for program in itertools.chain(PROGRAMS, [HELD, LOOSER, THREE], random_programs(104, 20)):
            for more in (0, 1, 5):
                pool = HUNDRED[:definitions.width(program) + more]
                naming = random_valid_naming(source, program, pool)
                self.assertEqual(find_route(program, naming, naming, pool, most=1), ("plan", ()))

    def test_programs_without_declarations(self):
        for program, pool in itertools.product((BARE, BARE_CHAIN), ((), ("a",), POOL)):
            self.assertEqual(find_route(program, (), (), pool), ("plan", ()))

    def test_pools_of_more_names_than_the_width(self):
        source = random.Random(105)
        for program in itertools.chain(PROGRAMS, [HELD, LOOSER, THREE], random_programs(106, 25)):
            for more in (1, 2, 20):
                many = definitions.width(program) + more
                pool = tuple(source.sample(HUNDRED[:many], many))
                start, goal = (random_valid_naming(source, program, pool) for _ in range(2))
                self.check_plan(program, start, goal, pool, most=1)

    def expected_case(self, program, start, goal, pool, most):
        """What the document says of two namings, without the package: a whole result, a part of one, or an error."""
        many = len(pool)
        for number in definitions.frozen(program, many):
            if start[number] != goal[number]:
                full = definitions.full(program, many)
                return "frozen", number, min(scope for scope in full if number in definitions.needed(program, scope))
        for part in definitions.parts(program, many):
            if named(start, part) == named(goal, part) or definitions.free(program, part, many):
                continue
            reached = definitions.reachable(program, start, part, pool)
            if len(reached) > most:
                return "too many", most
            if named(goal, part) not in reached:
                return "closed", part, reached
        return ("plan",)

    def check_case(self, program, start, goal, pool, most):
        expected = self.expected_case(program, start, goal, pool, most)
        if expected[0] == "plan":
            self.check_plan(program, start, goal, pool, follow_by_validity, most=most)
        elif expected[0] == "too many":
            self.check_too_many(program, start, goal, pool, most)
        else:
            self.assertEqual(find_route(program, start, goal, pool, most=most), expected)
            self.assertIs(shows_route(program, start, goal, pool, expected), True)
        return expected[0]

    def check_cases(self, source, program, start, goals, pool):
        """How often each case was found for these goals and some more."""
        goals = goals + [exchanged(source, program, start, pool, times) for times in (1, 3, 9)]
        goals.append(random_valid_naming(source, program, pool))
        if len(pool) ** count(program) <= 3000:
            agreeing = agreeing_namings(program, start, pool)
            goals += source.sample(agreeing, min(len(agreeing), 4))
        return collections.Counter(
            self.check_case(program, start, goal, pool, most) for goal in goals for most in (1, 2, 2000))

    def test_a_search_of_its_own(self):
        found = collections.Counter()
        source = random.Random(107)
        for program in random_programs(108, 250, scopes=9, declarations=8):
            many = definitions.width(program)
            pool = tuple(source.sample(HUNDRED[:many], many))
            found += self.check_cases(source, program, random_valid_naming(source, program, pool), [], pool)
        self.assertGreater(min(found[case] for case in ("frozen", "too many", "plan")), 50, found)

    def test_a_search_of_its_own_where_names_are_held(self):
        found = collections.Counter()
        source = random.Random(115)
        for at in range(60):
            program = grown(source, (HELD, LOOSER)[at % 2], source.randrange(4))
            if definitions.width(program) == 3:
                start, goal = (
                    random_valid_naming(source, program, POOL, first) for first in (HELD_NAMING, HELD_GOAL))
                goals = [goal] + [exchanged(source, program, goal, POOL, 2) for _ in range(4)]
                found += self.check_cases(source, program, start, goals, POOL)
        self.assertGreater(min(found[case] for case in ("frozen", "too many", "closed", "plan")), 50, found)

    def test_three_names_held(self):
        pool = ("a", "b", "c", "d")
        for names in itertools.permutations("abc"):
            goal = names + THREE_NAMING[3:]
            expected = ("plan", ()) if goal == THREE_NAMING else ("closed", (0, 1, 2), (("a", "b", "c"),))
            self.assertEqual(find_route(THREE, THREE_NAMING, goal, pool), expected)

    def test_large_programs_with_tight_pools(self):
        source = random.Random(109)
        shown = {}
        for program in itertools.chain(PROGRAMS, [beside(*[LOOSER] * 6), LARGEST], random_programs(110, 60)):
            many = definitions.width(program)
            pool = tuple(source.sample(HUNDRED[:many], many))
            start = random_valid_naming(source, program, pool)
            for goal in (exchanged(source, program, start, pool, 20), exchanged(source, program, start, pool, 1)):
                self.check_large(program, start, goal, pool, shown)
            other = random_valid_naming(source, program, pool)
            self.check_large(program, start, other, pool, shown)
        self.assertGreater(min(shown.get(case, 0) for case in ("frozen", "plan")), 20, shown)

    def check_large(self, program, start, goal, pool, shown):
        try:
            route = find_route(program, start, goal, pool, most=200)
        except TooMany:
            return
        shown[route[0]] = shown.get(route[0], 0) + 1
        frozen = [number for number in definitions.frozen(program, len(pool)) if start[number] != goal[number]]
        self.assertEqual(route[0] == "frozen", frozen != [])
        self.assertIs(shows_route(program, start, goal, pool, route), True)
        if route[0] == "plan":
            self.assertEqual(follow(self, program, start, route[1], pool), goal)

    def test_six_parts(self):
        program = beside(*[LOOSER] * 6)
        self.assertEqual((len(program), count(program)), (37, 54))
        start = (HELD_NAMING + ("c",)) * 6
        goal = (HELD_NAMING + ("b",)) * 6
        self.assertEqual(len(self.check_plan(program, start, goal, POOL)), 6)
        closed = ("closed", (45, 46, 53), (("a", "b", "b"), ("a", "b", "c")))
        self.assertEqual(find_route(program, start, goal[:45] + HELD_GOAL + ("c",), POOL), closed)

    def test_bad_naming(self):
        for value in WRONG_NAMINGS + tuple(any_values()):
            for pool in (POOL, TIGHT, ("a",), ()):
                with self.subTest(kind=type(value)), self.assertRaises(BadNaming) as context:
                    find_route(EXAMPLE, value, NAMING, pool)
                self.assertIs(context.exception.naming, value)
        for value in WRONG_NAMINGS + tuple(any_values()):
            for pool in (POOL, TIGHT):
                with self.subTest(kind=type(value)), self.assertRaises(BadNaming) as context:
                    find_route(EXAMPLE, NAMING, value, pool, most=1)
                self.assertIs(context.exception.naming, value)

    def test_bad_naming_with_start_ahead_of_goal(self):
        for start, goal in itertools.product(WRONG_NAMINGS + tuple(any_values()), WRONG_NAMINGS + (None, [], ("c",))):
            with self.assertRaises(BadNaming) as context:
                find_route(EXAMPLE, start, goal, POOL)
            self.assertIs(context.exception.naming, start)

    def test_bad_naming_ahead_of_the_cases(self):
        goal = HELD_GOAL[:7] + ("d",)
        with self.assertRaises(BadNaming) as context:
            find_route(HELD, HELD_NAMING, goal, POOL, most=1)
        self.assertIs(context.exception.naming, goal)


class ShowsPlanRouteTest(unittest.TestCase):
    """shows_route for ("plan", plan), and for values of no form at all."""

    def check(self, value, expected, goal=("a", "b", "b", "b"), pool=TIGHT):
        self.assertIs(shows_route(EXAMPLE, NAMING, goal, pool, value), expected, value)

    def test_right_plans(self):
        self.check(("plan", ((3, "b"),)), True)
        self.check(("plan", ()), True, goal=NAMING)
        # find_route returns other plans.
        self.check(("plan", ((3, "b"), (3, "a"), (3, "b"))), True)
        self.check(("plan", ((0, "c"), (0, "a"))), True, goal=NAMING, pool=POOL)
        self.assertIs(shows_route(BARE, (), (), (), ("plan", ())), True)

    def test_wrong_plans(self):
        for plan in ((), ((3, "a"),), ((3, "c"),), ((0, "b"), (3, "b")), ((3, "b"), (3, "b")), ((3, "c"), (3, "b")),
                     ((3, "b"), (0, "b")), ((True, "b"),), ((3, "b", "b"),), [(3, "b")], ([3, "b"],), None, "plan"):
            self.check(("plan", plan), False)
        for value in any_values():
            self.check(("plan", value), False)
            self.check(("plan", (value,)), False)
            self.check(("plan", ((3, "b"), value)), False)
            self.check(("plan", ((value, "b"),)), False)
            self.check(("plan", ((3, value),)), False)

    def test_wrong_forms(self):
        plan = ((3, "b"),)
        for value in any_values() + [
                (), ("plan",), ("plan", plan, plan), ("plan", plan, 0), (plan,), (plan, "plan"), ["plan", plan],
                ("Plan", plan), ("plans", plan), ("", plan), (b"plan", plan), (None, plan), ("closed", plan),
                ("frozen", plan), ("frozen", 0), plan, {"plan": plan}, 0, "plan"]:
            self.check(value, False)
        for value in any_values():
            self.check((value, plan), False)
            self.check((value, 0, 0), False, goal=("b", "a", "a", "b"))
            self.check((value, plan, plan, plan), False)
            self.check(("plan", plan, value), False)


class ShowsFrozenRouteTest(unittest.TestCase):
    """shows_route for ("frozen", declaration, scope)."""

    GOAL = ("b", "a", "a", "b")

    def check(self, declaration, scope, expected, goal=GOAL, pool=TIGHT):
        value = ("frozen", declaration, scope)
        self.assertIs(shows_route(EXAMPLE, NAMING, goal, pool, value), expected, value)

    def test_all_pairs(self):
        # find_route returns only the first one of them.
        right = {(0, 0), (0, 1), (1, 0), (2, 1)}
        for declaration, scope in itertools.product(range(-2, 6), range(-2, 5)):
            self.check(declaration, scope, (declaration, scope) in right)

    def test_a_declaration_with_the_same_name(self):
        program = ((-1, 0, ()), (0, 2, ()), (0, 2, ()))
        start, goal = ("a", "b", "a", "b"), ("a", "b", "b", "a")
        for number, scope in itertools.product(range(4), range(3)):
            value = ("frozen", number, scope)
            self.assertIs(shows_route(program, start, goal, TIGHT, value), number >= 2 and scope == 2)

    def test_a_scope_that_is_not_full(self):
        program = ((-1, 1, ()), (0, 1, (0,)), (0, 2, (0,)))
        start, goal = ("a", "b", "b", "c"), ("b", "a", "a", "c")
        right = {(0, 2), (2, 2)}
        for number, scope in itertools.product(range(4), range(3)):
            value = ("frozen", number, scope)
            self.assertIs(shows_route(program, start, goal, POOL, value), (number, scope) in right)

    def test_more_names_than_the_width(self):
        for declaration, scope in itertools.product(range(4), range(3)):
            self.check(declaration, scope, False, pool=POOL)

    def test_values_of_any_kind(self):
        for value in wrong_numbers(4):
            self.check(value, 0, False)
            self.check(value, 1, False)
        for value in wrong_numbers(3):
            self.check(0, value, False)
        for value in any_values():
            self.check(value, value, False)
        # Bools that are equal to right numbers.
        self.check(False, 0, False)
        self.check(0, False, False)
        self.check(0, True, False)
        self.check(True, 0, False)

    def test_wrong_forms(self):
        for value in (("frozen", 0), ("frozen", 0, 0, 0), ["frozen", 0, 0], ("Frozen", 0, 0), ("closed", 0, 0),
                      ("plan", 0, 0), (0, 0), (0, 0, "frozen"), ("frozen", (0,), (0,)), ("frozen", (0, 0), 0)):
            self.assertIs(shows_route(EXAMPLE, NAMING, self.GOAL, TIGHT, value), False, value)


class ShowsClosedRouteTest(unittest.TestCase):
    """shows_route for ("closed", part, namings)."""

    START = HELD_NAMING + ("c",)
    GOAL = HELD_GOAL + ("c",)
    NAMINGS = (("a", "b", "b"), ("a", "b", "c"))

    def check(self, part, namings, expected):
        value = ("closed", part, namings)
        self.assertIs(shows_route(LOOSER, self.START, self.GOAL, POOL, value), expected, value)

    def test_right(self):
        self.check((0, 1, 8), self.NAMINGS, True)

    def test_parts_that_are_none(self):
        for part in ((), (0,), (0, 1), (1, 8), (0, 1, 2), (0, 1, 7), (0, 1, 8, 9), (0, 1, 9), (2,), (1, 0, 8),
                     (0, 8, 1), (0, 0, 1, 8), (0, 1, 8, 8), [0, 1, 8], "018", 0, (-9, 1, 8), (-9, -8, -1), tuple(range(9))):
            self.check(part, self.NAMINGS, False)
        # Sets of namings that would be closed if only these declarations could be renamed.
        self.check((0, 1), (("a", "b"),), False)
        self.check((2,), (("c",),), False)
        self.check(tuple(range(9)), (self.START[:8] + ("b",), self.START), False)
        self.check((), ((),), False)

    def test_members_that_are_bools(self):
        self.assertEqual((False, True, 8), (0, 1, 8))
        for part in ((False, 1, 8), (0, True, 8), (False, True, 8)):
            self.check(part, self.NAMINGS, False)

    def test_members_and_parts_of_any_kind(self):
        for value in any_values():
            self.check(value, self.NAMINGS, False)
            self.check((value, 1, 8), self.NAMINGS, False)
            self.check((0, 1, value), self.NAMINGS, False)

    def test_namings_out_of_order_or_twice(self):
        first, second = self.NAMINGS
        self.check((0, 1, 8), (second, first), False)
        self.check((0, 1, 8), (first, first, second), False)
        self.check((0, 1, 8), (first, second, second), False)
        self.check((0, 1, 8), (first, second, first), False)
        self.check((0, 1, 8), [first, second], False)

    def test_namings_too_short_or_too_long(self):
        first, second = self.NAMINGS
        self.check((0, 1, 8), (first[:2], first, second), False)
        self.check((0, 1, 8), ((), first, second), False)
        self.check((0, 1, 8), (first, first + ("a",), second), False)
        self.check((0, 1, 8), (first, second, second + ("a",)), False)

    def test_namings_that_are_not_valid(self):
        first, second = self.NAMINGS
        # The same name twice within the part, and the name of a frozen declaration.
        self.check((0, 1, 8), (("a", "a", "b"), ("a", "a", "c")) + self.NAMINGS, False)
        self.check((0, 1, 8), (("a", "b", "a"),) + self.NAMINGS, False)
        self.check((0, 1, 8), self.NAMINGS + (("a", "c", "b"), ("a", "c", "c")), False)
        self.check((0, 1, 8), self.NAMINGS + (("c", "b", "a"), ("c", "b", "b")), False)

    def test_names_out_of_the_pool(self):
        self.check((0, 1, 8), self.NAMINGS + (("a", "b", "d"),), False)
        self.check((0, 1, 8), self.NAMINGS + (("d", "b", "a"),), False)
        self.check((0, 1, 8), self.NAMINGS + (("a", "b", "ca"),), False)

    def test_without_the_one_in_start(self):
        self.check((0, 1, 8), (), False)
        self.check((0, 1, 8), self.NAMINGS[:1], False)
        # Closed sets with the naming of neither end.
        pool = ("a", "b", "c", "d")
        goal = ("b", "a", "c") + THREE_NAMING[3:]
        value = ("closed", (0, 1, 2), (("a", "c", "b"),))
        self.assertIs(shows_route(THREE, THREE_NAMING, goal, pool, value), False)
        self.assertIs(shows_route(THREE, THREE_NAMING, goal, pool, ("closed", (0, 1, 2), ())), False)

    def test_with_the_one_in_goal(self):
        others = (("b", "a", "a"), ("b", "a", "c"))
        self.check((0, 1, 8), self.NAMINGS + others, False)
        self.check((0, 1, 8), others, False)
        value = ("closed", (0, 1, 8), self.NAMINGS)
        self.assertIs(shows_route(LOOSER, self.START, HELD_NAMING + ("b",), POOL, value), False)
        self.assertIs(shows_route(LOOSER, self.START, self.START, POOL, value), False)

    def test_not_closed(self):
        self.check((0, 1, 8), self.NAMINGS[1:], False)
        self.check((0, 1, 8), self.NAMINGS + (("b", "a", "a"),), False)

    def test_each_naming_is_missed(self):
        # All reachable namings of a part but one, with a goal that they cannot reach.
        program = beside(LOOSER, HELD)
        start, goal = self.START + HELD_NAMING, self.GOAL + HELD_GOAL
        for namings in ((("a", "b", "b"),), (("a", "b", "c"),), ()):
            self.assertIs(shows_route(program, start, goal, POOL, ("closed", (0, 1, 8), namings)), False)
        part = (5, 6, 7)
        reached = tuple(itertools.permutations("bcde", 3))
        self.assertEqual(reachable_namings(SPACIOUS, SPACIOUS_NAMING, part, FIVE), reached)
        for at in range(24):
            goal = SPACIOUS_NAMING[:5] + reached[at]
            if goal != SPACIOUS_NAMING:
                value = ("closed", part, reached[:at] + reached[at + 1:])
                self.assertIs(shows_route(SPACIOUS, SPACIOUS_NAMING, goal, FIVE, value), False)

    def test_other_results_than_those_of_find_route(self):
        pool = ("a", "b", "c", "d")
        everything = tuple(itertools.permutations("abc"))
        for many in range(1, 6):
            for namings in itertools.combinations(everything, many):
                for names in everything:
                    expected = ("a", "b", "c") in namings and names not in namings
                    goal = names + THREE_NAMING[3:]
                    value = ("closed", (0, 1, 2), namings)
                    self.assertIs(shows_route(THREE, THREE_NAMING, goal, pool, value), expected)

    def test_a_later_part_than_that_of_find_route(self):
        program = beside(HELD, LOOSER)
        start, goal = HELD_NAMING + self.START, HELD_GOAL + self.GOAL
        self.assertEqual(find_route(program, start, goal, POOL), ("closed", (0, 1), (("a", "b"),)))
        value = ("closed", (8, 9, 16), self.NAMINGS)
        self.assertIs(shows_route(program, start, goal, POOL, value), True)
        # Also if a frozen declaration differs, which does not belong to the part.
        program = beside(EXAMPLE, HELD, ((-1, 3, ()),))
        start = NAMING + HELD_NAMING + ("a", "b", "c")
        goal = NAMING + HELD_GOAL + ("b", "a", "c")
        self.assertEqual(find_route(program, start, goal, POOL)[0], "frozen")
        self.assertIs(shows_route(program, start, goal, POOL, ("closed", (4, 5), (("a", "b"),))), True)

    def test_the_others_have_their_names_in_start(self):
        # In goal the frozen declaration 0 has another name. The names of the part are still those beside its old one.
        start = SPACIOUS_NAMING
        goal = ("e", "b", "c", "d", "a", "a", "b", "c")
        part = (5, 6, 7)
        self.assertEqual(parts_of(SPACIOUS, FIVE), (part,))
        beside_start = ("closed", part, tuple(itertools.permutations("bcde", 3)))
        beside_goal = ("closed", part, tuple(itertools.permutations("abcd", 3)))
        self.assertIs(shows_route(SPACIOUS, start, goal, FIVE, beside_start), True)
        self.assertIs(shows_route(SPACIOUS, start, goal, FIVE, beside_goal), False)

    def test_values_of_any_kind(self):
        first, second = self.NAMINGS
        for value in any_values():
            self.check((0, 1, 8), value, False)
            self.check((0, 1, 8), (value,), False)
            self.check((0, 1, 8), (first, value), False)
            self.check((0, 1, 8), (first, second, value), False)
            self.check((0, 1, 8), (value, first, second), False)
            self.check((0, 1, 8), (first, second, ("a", "b", value)), False)
            self.check((0, 1, 8), ((value, "b", "c"), first, second), False)

    def test_lists_in_the_place_of_namings(self):
        first, second = self.NAMINGS
        self.check((0, 1, 8), (list(first), second), False)
        self.check((0, 1, 8), (list(first), list(second)), False)
        self.check((0, 1, 8), ("abb", "abc"), False)

    def test_wrong_forms(self):
        namings = self.NAMINGS
        for value in (("closed", (0, 1, 8)), ("closed", (0, 1, 8), namings, namings), ["closed", (0, 1, 8), namings],
                      ("Closed", (0, 1, 8), namings), ("frozen", (0, 1, 8), namings), ("plan", (0, 1, 8), namings),
                      ((0, 1, 8), namings), ("closed", namings, (0, 1, 8))):
            self.assertIs(shows_route(LOOSER, self.START, self.GOAL, POOL, value), False, value)

    def test_more_names_than_the_width(self):
        # Every part is free then, so that no set of namings is closed.
        reached = tuple(row for row in itertools.product(POOL, repeat=3) if row[0] not in row[1:])
        start = NAMING[:3]
        for goal in reached:
            others = tuple(names for names in reached if names != goal)
            for namings in (others, others[1:], others[:-1], (start,), tuple(sorted({start, others[0]}))):
                value = ("closed", (0, 1, 2), namings)
                self.assertIs(shows_route(EXAMPLE, NAMING, goal + ("a",), POOL, value), False)


class EveryRouteTest(unittest.TestCase):
    def test_what_find_route_returns_is_shown(self):
        source = random.Random(111)
        for program in random_programs(112, 200, scopes=12, declarations=14):
            pool = HUNDRED[:definitions.width(program)]
            start = random_valid_naming(source, program, pool)
            goal = exchanged(source, program, start, pool, 4)
            try:
                route = find_route(program, start, goal, pool, most=300)
            except TooMany:
                continue
            self.assertIs(shows_route(program, start, goal, pool, route), True)
            if start != goal and route[0] != "plan":
                self.assertIs(shows_route(program, start, start, pool, route), False)

    def test_the_plans_of_find_plan_are_shown(self):
        source = random.Random(113)
        for program in itertools.chain([CROWDED, FUNNEL], random_programs(114, 10)):
            pool = HUNDRED[:definitions.width(program) + 1]
            start, goal = (random_valid_naming(source, program, pool) for _ in range(2))
            plan = find_plan(program, start, goal, pool)
            self.assertIs(shows_route(program, start, goal, pool, ("plan", plan)), True)


if __name__ == "__main__":
    unittest.main()

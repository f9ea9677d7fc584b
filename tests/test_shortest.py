"""Tests of the module shortest."""

import collections
import itertools
import random
import unittest

from renamesteps.errors import BadNaming, TooMany
from renamesteps.parts import parts_of
from renamesteps.plans import shows_plan
from renamesteps.routes import find_route
from renamesteps.shortest import fewest_renames, shortest_plan
from tests import definitions
from tests.definitions import count, named
from tests.following import follow, follow_by_validity
from tests.held import (
    FIVE, HELD, HELD_GOAL, HELD_NAMING, LOOSER, MANY, MANY_NAMING, MORE, MORE_NAMING, SPACIOUS, SPACIOUS_NAMING, THREE,
    THREE_NAMING, exchanged, grown, with_names)
from tests.samples import (
    BARE, BARE_CHAIN, CROWDED, EXAMPLE, HUNDRED, LINKS, PROGRAMS, WRONG_NAMINGS, any_values, beside, random_programs,
    random_valid_naming, small_programs)

NAMING = ("a", "b", "b", "a")
POOL = ("a", "b", "c")
TIGHT = ("a", "b")


class ShortestTest(unittest.TestCase):
    """What several tests check of both functions at once."""

    def check(self, program, start, goal, pool, expected, way=follow, **most):
        """Both functions return this number, and a plan of this length, or both None."""
        number = fewest_renames(program, start, goal, pool, **most)
        self.assertEqual(number, expected, (program, start, goal, pool))
        self.assertIsNot(type(number), bool)
        plan = shortest_plan(program, start, goal, pool, **most)
        self.assertEqual(shortest_plan(program, start, goal, pool, **most), plan)
        if expected is None:
            self.assertIsNone(plan)
            return
        self.assertEqual(len(plan), expected)
        self.assertIs(shows_plan(program, start, goal, pool, plan), True)
        self.assertEqual(way(self, program, start, plan, pool), goal)

    def check_too_many(self, program, start, goal, pool, most):
        for function in (fewest_renames, shortest_plan):
            with self.subTest(function.__name__), self.assertRaises(TooMany) as context:
                function(program, start, goal, pool, most=most)
            self.assertEqual(context.exception.most, most)


class NumbersTest(ShortestTest):
    def test_numbers(self):
        self.check(EXAMPLE, NAMING, ("a", "b", "b", "b"), POOL, 1)
        self.check(EXAMPLE, NAMING, ("c", "b", "b", "a"), POOL, 1)
        self.check(EXAMPLE, NAMING, ("c", "a", "a", "a"), POOL, 3)
        # Two declarations exchange their names: one of them has to give way.
        self.check(((-1, 2, ()),), TIGHT, ("b", "a"), POOL, 3)
        # Three names move on in a circle, with one and with no name to spare.
        self.check(((-1, 3, ()),), ("a", "b", "c"), ("b", "c", "a"), FIVE, 4)
        self.check(((-1, 3, ()),), ("a", "b", "c"), ("b", "c", "a"), POOL, None)
        # A declaration gives way, because it is one, and those beside it are many.
        program = ((-1, 1, ()),) + ((0, 1, (0,)),) * 4
        self.check(program, ("a",) + ("b",) * 4, ("b",) + ("a",) * 4, POOL, 6)

    def test_start_equal_to_goal(self):
        source = random.Random(121)
        for program in itertools.chain(PROGRAMS, [HELD, LOOSER, THREE], random_programs(122, 10)):
            for more in (0, 1, 3):
                pool = HUNDRED[:definitions.width(program) + more]
                naming = random_valid_naming(source, program, pool)
                self.check(program, naming, naming, pool, 0, most=1)
                self.assertEqual(shortest_plan(program, naming, naming, pool), ())

    def test_programs_without_declarations(self):
        for program, pool in itertools.product((BARE, BARE_CHAIN), ((), ("a",))):
            self.check(program, (), (), pool, 0)

    def test_a_search_of_its_own(self):
        source = random.Random(123)
        found = collections.Counter()
        programs = itertools.chain(small_programs(2), random_programs(124, 250, scopes=7, declarations=6))
        for program, more in itertools.product(programs, (0, 1)):
            many = definitions.width(program) + more
            if many ** count(program) > 800:
                continue
            pool = tuple(source.sample(HUNDRED[:many], many))
            start = random_valid_naming(source, program, pool)
            steps = definitions.distances(program, start, range(count(program)), pool)
            goals = source.sample(sorted(steps), min(len(steps), 5))
            for goal in goals + [random_valid_naming(source, program, pool)]:
                self.check(program, start, goal, pool, steps.get(goal), follow_by_validity)
                found[steps.get(goal)] += 1
        self.assertGreater(min(found[number] for number in (None, 0, 1, 2, 3, 4)), 10, found)

    def test_a_search_of_its_own_where_names_are_held(self):
        source = random.Random(125)
        found = collections.Counter()
        for at in range(40):
            program = grown(source, (HELD, LOOSER)[at % 2], source.randrange(4))
            if definitions.width(program) > 3:
                continue
            start, goal = (random_valid_naming(source, program, POOL, first) for first in (HELD_NAMING, HELD_GOAL))
            steps = definitions.distances(program, start, range(count(program)), POOL)
            goals = source.sample(sorted(steps), min(len(steps), 5))
            for goal in goals + [goal, exchanged(source, program, goal, POOL, 4)]:
                self.check(program, start, goal, POOL, steps.get(goal), follow_by_validity)
                found[steps.get(goal)] += 1
        self.assertGreater(min(found[number] for number in (None, 0, 1)), 10, found)

    def test_the_sum_over_the_parts(self):
        pair = ((-1, 2, ()),)
        for many in (1, 2, 5):
            program = beside(*[pair] * many)
            self.check(program, TIGHT * many, ("b", "a") * many, POOL, 3 * many)
            self.check(program, TIGHT * many, ("b", "a") + TIGHT * (many - 1), POOL, 3)
        # Parts that are free and parts that are not, beside full scopes.
        program = beside(LOOSER, pair, LOOSER, pair)
        start = HELD_NAMING + ("c", "a", "b") + HELD_NAMING + ("c", "b", "c")
        goal = HELD_NAMING + ("b", "b", "a") + HELD_NAMING + ("b", "a", "c")
        self.check(program, start, goal, POOL, 1 + 3 + 1 + 1)
        goal = HELD_NAMING + ("c", "b", "a") + HELD_NAMING + ("b", "b", "c")
        self.check(program, start, goal, POOL, 3 + 1)

    def test_the_sum_over_the_parts_of_random_programs(self):
        source = random.Random(126)
        shown = 0
        for program in random_programs(127, 150, scopes=10, declarations=10):
            pool = HUNDRED[:definitions.width(program)]
            start = random_valid_naming(source, program, pool)
            goal = exchanged(source, program, start, pool, 6)
            parts = definitions.parts(program, len(pool))
            if max([len(pool) ** len(part) for part in parts], default=0) > 300:
                continue
            numbers = []
            for part in parts:
                steps = definitions.distances(program, start, part, pool)
                numbers.append(steps.get(with_names(start, dict(zip(part, named(goal, part))))))
            self.check(program, start, goal, pool, None if None in numbers else sum(numbers))
            shown += len([number for number in numbers if number]) > 1
        self.assertGreater(shown, 10)

    def test_large_programs(self):
        six = beside(*[LOOSER] * 6)
        self.check(six, (HELD_NAMING + ("c",)) * 6, (HELD_NAMING + ("b",)) * 6, POOL, 6)
        self.check(MANY, MANY_NAMING, with_names(MANY_NAMING, {0: "am", 52: "al"}), HUNDRED[:51], 2)
        # The plan of find_route is longer than needed in some of these, and never shorter.
        source = random.Random(128)
        for program in random_programs(129, 30):
            pool = HUNDRED[:definitions.width(program)]
            start = random_valid_naming(source, program, pool)
            goal = exchanged(source, program, start, pool, 3)
            try:
                plan = shortest_plan(program, start, goal, pool, most=200)
            except TooMany:
                continue
            route = find_route(program, start, goal, pool)
            self.assertEqual(plan is None, route[0] != "plan")
            if plan is not None:
                self.assertLessEqual(len(plan), len(route[1]))
                self.check(program, start, goal, pool, len(plan))


class NoPlanTest(ShortestTest):
    def test_a_frozen_declaration_that_differs(self):
        self.check(EXAMPLE, NAMING, ("b", "a", "a", "a"), TIGHT, None)
        self.check(EXAMPLE, NAMING, ("b", "a", "a", "b"), TIGHT, None)
        self.check(LINKS, TIGHT * 20, ("b", "a") * 20, TIGHT, None)
        self.check(CROWDED, HUNDRED[:60], HUNDRED[59::-1], HUNDRED[:60], None)

    def test_a_frozen_declaration_ahead_of_too_many(self):
        self.check(EXAMPLE, NAMING, ("b", "a", "a", "b"), TIGHT, None, most=1)
        program = beside(LOOSER, HELD)
        start = HELD_NAMING + ("c",) + HELD_NAMING
        goal = HELD_NAMING + ("b",) + HELD_NAMING[:6] + ("b", "a")
        self.check(program, start, goal, POOL, None, most=1)

    def test_a_naming_that_is_not_reachable(self):
        self.check(HELD, HELD_NAMING, HELD_GOAL, POOL, None)
        self.check(LOOSER, HELD_NAMING + ("c",), HELD_GOAL + ("c",), POOL, None)
        self.check(LOOSER, HELD_NAMING + ("c",), HELD_GOAL + ("c",), POOL, None, most=2)
        for names in itertools.permutations("abc"):
            expected = 0 if names == ("a", "b", "c") else None
            self.check(THREE, THREE_NAMING, names + THREE_NAMING[3:], ("a", "b", "c", "d"), expected)


class TooManyTest(ShortestTest):
    def test_most_exactly_met_and_exceeded_by_one(self):
        goal = with_names(SPACIOUS_NAMING, {5: "c", 6: "b"})
        self.check(SPACIOUS, SPACIOUS_NAMING, goal, FIVE, 3, most=24)
        for most in (1, 2, 23):
            self.check_too_many(SPACIOUS, SPACIOUS_NAMING, goal, FIVE, most)
        # A part that is free.
        self.check(EXAMPLE, NAMING, ("a", "b", "b", "b"), TIGHT, 1, most=2)
        self.check_too_many(EXAMPLE, NAMING, ("a", "b", "b", "b"), TIGHT, 1)
        self.check(EXAMPLE, NAMING, ("c", "b", "b", "a"), POOL, 1, most=12)
        self.check_too_many(EXAMPLE, NAMING, ("c", "b", "b", "a"), POOL, 11)

    def test_the_default(self):
        self.check(MANY, MANY_NAMING, with_names(MANY_NAMING, {52: "ab"}), HUNDRED[:51], 1)
        self.check_too_many(MANY, MANY_NAMING, with_names(MANY_NAMING, {52: "ab"}), HUNDRED[:51], 1999)
        for function in (fewest_renames, shortest_plan):
            with self.assertRaises(TooMany) as context:
                function(MORE, MORE_NAMING, with_names(MORE_NAMING, {53: "ab"}), HUNDRED[:52])
            self.assertEqual(context.exception.most, 2000)

    def test_ahead_of_none_for_the_same_part(self):
        self.check_too_many(LOOSER, HELD_NAMING + ("c",), HELD_GOAL + ("c",), POOL, 1)

    def test_parts_in_which_both_namings_agree_are_left_alone(self):
        program = beside(LOOSER, HELD, LOOSER)
        start = HELD_NAMING + ("c",) + HELD_NAMING + HELD_NAMING + ("c",)
        self.check(program, start, start, POOL, 0, most=1)
        goal = HELD_NAMING + ("c",) + HELD_GOAL + HELD_NAMING + ("c",)
        self.check(program, start, goal, POOL, None, most=1)

    def test_ahead_of_none_for_a_later_part_and_behind_none_for_an_earlier_one(self):
        program = beside(LOOSER, HELD, LOOSER)
        self.assertEqual(parts_of(program, POOL), ((0, 1, 8), (9, 10), (17, 18, 25)))
        start = HELD_NAMING + ("c",) + HELD_NAMING + HELD_NAMING + ("c",)
        first = HELD_NAMING + ("b",) + HELD_GOAL + HELD_NAMING + ("c",)
        self.check_too_many(program, start, first, POOL, 1)
        self.check(program, start, first, POOL, None, most=2)
        last = HELD_NAMING + ("c",) + HELD_GOAL + HELD_NAMING + ("b",)
        self.check(program, start, last, POOL, None, most=1)
        self.check(program, start, HELD_NAMING + ("c",) + HELD_NAMING * 2 + ("b",), POOL, 1, most=2)

    def test_free_parts_included(self):
        pair = ((-1, 2, ()),)
        # A free part ahead of a closed one, and behind it: it has six reachable namings.
        self.check_too_many(beside(pair, HELD), TIGHT + HELD_NAMING, ("b", "a") + HELD_GOAL, POOL, 5)
        self.check(beside(pair, HELD), TIGHT + HELD_NAMING, ("b", "a") + HELD_GOAL, POOL, None, most=6)
        self.check(beside(pair, HELD), TIGHT + HELD_NAMING, TIGHT + HELD_GOAL, POOL, None, most=1)
        self.check(beside(HELD, pair), HELD_NAMING + TIGHT, HELD_GOAL + ("b", "a"), POOL, None, most=1)
        self.check_too_many(beside(HELD, pair), HELD_NAMING + TIGHT, HELD_NAMING + ("b", "a"), POOL, 5)
        self.check(beside(HELD, pair), HELD_NAMING + TIGHT, HELD_NAMING + ("b", "a"), POOL, 3, most=6)

    def test_large_parts(self):
        self.check_too_many(CROWDED, HUNDRED[:60], HUNDRED[:59] + HUNDRED[70:71], HUNDRED[:80], 2000)
        self.check_too_many(LINKS, TIGHT * 20, ("b", "a") * 20, POOL, 2000)


class BadNamingTest(unittest.TestCase):
    def assert_bad(self, function, value, *arguments):
        with self.subTest(function.__name__, kind=type(value)), self.assertRaises(BadNaming) as context:
            function(*arguments, most=1)
        self.assertIs(context.exception.naming, value)

    def test_values_of_any_kind(self):
        for function in (fewest_renames, shortest_plan):
            for value in WRONG_NAMINGS + tuple(any_values()):
                for pool in (POOL, TIGHT, ("a",), ()):
                    self.assert_bad(function, value, EXAMPLE, value, NAMING, pool)
                for pool in (POOL, TIGHT):
                    self.assert_bad(function, value, EXAMPLE, NAMING, value, pool)

    def test_start_ahead_of_goal(self):
        for function in (fewest_renames, shortest_plan):
            for start, goal in itertools.product(
                    WRONG_NAMINGS + tuple(any_values()), WRONG_NAMINGS + (None, [], ("c",))):
                self.assert_bad(function, start, EXAMPLE, start, goal, POOL)

    def test_ahead_of_none_and_too_many(self):
        goal = HELD_GOAL[:7] + ("d",)
        for function in (fewest_renames, shortest_plan):
            self.assert_bad(function, goal, HELD, HELD_NAMING, goal, POOL)


if __name__ == "__main__":
    unittest.main()

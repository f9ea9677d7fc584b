"""Tests of the guarantees of the document, mostly by going through all namings of small programs."""

import itertools
import random
import unittest

from renamesteps.errors import Clash
from renamesteps.fewest import shows_fewest, smallest_naming
from renamesteps.groups import gather
from renamesteps.plans import find_plan, plan_to_name
from renamesteps.programs import height_of
from renamesteps.regions import all_conflicts, conflicts_of, needed_in, widest_scope, width_of
from renamesteps.renames import all_renames, blockers, rename
from renamesteps.validity import find_problems, is_valid
from tests.definitions import count, renamed, valid_namings
from tests.following import follow_by_validity
from tests.samples import (
    EXAMPLE, HUNDRED, PROGRAMS, programs_of_shape, random_programs, random_valid_naming, small_programs)


def some_programs():
    """All programs with up to three declarations, and some with more."""
    yield from small_programs(3)
    yield EXAMPLE
    yield from random_programs(31, 60, scopes=5, declarations=5)
    yield from itertools.islice(programs_of_shape((-1, 0, 1, 0), (1, 1, 1, 1)), 0, None, 5)


class ConflictsTest(unittest.TestCase):
    """G1."""

    def test_valid_namings_are_those_without_conflicts(self):
        shown = set()
        for program in some_programs():
            pairs = all_conflicts(program)
            for naming in itertools.product("abc", repeat=count(program)):
                different = all(naming[one] != naming[other] for one, other in pairs)
                self.assertIs(is_valid(program, naming), different, (program, naming))
                self.assertEqual(find_problems(program, naming) == (), different)
                shown.add(different)
        self.assertEqual(shown, {True, False})

    def test_safe_renames_are_those_without_a_conflicting_declaration_that_has_the_name(self):
        shown = set()
        for program in itertools.chain(small_programs(2), random_programs(34, 40, scopes=5, declarations=4)):
            for naming in valid_namings(program, "abc"):
                safe = all_renames(program, naming, tuple("abcd"))
                for number, name in itertools.product(range(count(program)), "abcd"):
                    if name == naming[number]:
                        continue
                    expected = is_valid(program, renamed(naming, number, name))
                    holders = [other for other in conflicts_of(program, number) if naming[other] == name]
                    self.assertEqual(holders == [], expected)
                    self.assertEqual(blockers(program, naming, number, name) == (), expected)
                    self.assertEqual((number, name) in safe, expected)
                    self.assertEqual(self.can_rename(program, naming, number, name), expected)
                    shown.add(expected)
        self.assertEqual(shown, {True, False})

    def can_rename(self, program, naming, number, name):
        try:
            rename(program, naming, number, name)
        except Clash:
            return False
        return True


class FewestNamesTest(unittest.TestCase):
    """G2."""

    def test_no_naming_with_fewer_names_than_the_width_is_valid(self):
        for program in some_programs():
            if count(program) == 0:
                continue
            for naming in itertools.product(HUNDRED[:width_of(program) - 1], repeat=count(program)):
                self.assertIs(is_valid(program, naming), False, (program, naming))

    def test_the_numbers_of_names_of_valid_namings(self):
        for program in itertools.chain(small_programs(2), random_programs(32, 40, scopes=5, declarations=4)):
            many = count(program)
            namings = itertools.product(HUNDRED[:many], repeat=many)
            found = {len(set(naming)) for naming in namings if is_valid(program, naming)}
            self.assertEqual(found, set(range(width_of(program), many + 1)))

    def test_a_scope_whose_load_is_the_width_shows_it(self):
        for program in itertools.chain(PROGRAMS, random_programs(33, 40)):
            naming = smallest_naming(program, HUNDRED[:60])
            scope = widest_scope(program)
            self.assertEqual(len(needed_in(program, scope)), width_of(program))
            self.assertIs(shows_fewest(program, naming, scope), True)


class OneNameMoreTest(unittest.TestCase):
    """G3, and G4 for what find_plan returns."""

    def check(self, program, start, goal, pool):
        plan = find_plan(program, start, goal, pool)
        self.assertLessEqual(len(plan), 4 * count(program) * height_of(program))
        self.assertEqual(follow_by_validity(self, program, start, plan, pool), goal)

    def test_from_every_naming_to_every_other_one(self):
        for program in itertools.chain([EXAMPLE], small_programs(2), random_programs(35, 10, scopes=5, declarations=4)):
            pool = HUNDRED[:width_of(program) + 1]
            namings = valid_namings(program, pool)
            for start, goal in itertools.islice(itertools.product(namings, repeat=2), 0, None, 1 + len(namings) // 10):
                self.check(program, start, goal, pool)

    def test_somewhat_larger_programs(self):
        source = random.Random(36)
        for program in random_programs(37, 60, scopes=10, declarations=12):
            for more in (1, 3):
                pool = HUNDRED[:width_of(program) + more]
                self.check(program, *(random_valid_naming(source, program, pool) for _ in range(2)), pool)


class EveryMomentTest(unittest.TestCase):
    """G4, and of G7 that each declaration can be given each name."""

    def test_gathering(self):
        source = random.Random(38)
        for program in random_programs(39, 60, scopes=10, declarations=12):
            pool = HUNDRED[:width_of(program) + 1]
            naming = random_valid_naming(source, program, pool)
            follow_by_validity(self, program, naming, gather(program, naming, pool), pool)

    def test_each_declaration_and_each_name(self):
        source = random.Random(40)
        for program in random_programs(41, 20, scopes=8, declarations=8):
            pool = HUNDRED[:width_of(program) + 1]
            naming = random_valid_naming(source, program, pool)
            for number, name in itertools.product(range(count(program)), pool):
                plan = plan_to_name(program, naming, number, name, pool)
                self.assertEqual(follow_by_validity(self, program, naming, plan, pool)[number], name)


if __name__ == "__main__":
    unittest.main()

"""Tests of the guarantees of the document, mostly by going through all namings of small programs."""

import collections
import itertools
import math
import random
import unittest

from renamesteps.edits import add_use, plan_for_use
from renamesteps.errors import BadText, Clash, TooFewNames
from renamesteps.fewest import shows_fewest, smallest_naming
from renamesteps.groups import gather
from renamesteps.parts import frozen_declarations, is_free, parts_of
from renamesteps.plans import find_plan, plan_to_name
from renamesteps.programs import height_of
from renamesteps.reading import read_program, same_program
from renamesteps.regions import all_conflicts, conflicts_of, needed_in, widest_scope, width_of
from renamesteps.renames import all_renames, blockers, rename
from renamesteps.routes import find_route, reachable_namings, shows_route
from renamesteps.shortest import fewest_renames, shortest_plan
from renamesteps.validity import find_problems, is_valid
from renamesteps.workspace import Workspace
from renamesteps.writing import write_program
from tests import texts
from tests.definitions import count, distances, enclosing, homes, named, renamed, valid_namings
from tests.following import follow_by_validity
from tests.held import HELD, HELD_GOAL, HELD_NAMING, LOOSER, grown, with_names
from tests.samples import (
    EXAMPLE, HUNDRED, PROGRAMS, programs_of_shape, random_programs, random_valid_naming, small_programs)


def some_programs():
    """All programs with up to three declarations, and some with more."""
    yield from small_programs(3)
    yield EXAMPLE
    yield from random_programs(31, 60, scopes=5, declarations=5)
    yield from itertools.islice(programs_of_shape((-1, 0, 1, 0), (1, 1, 1, 1)), 0, None, 5)


class ConflictsTest(unittest.TestCase):
    """G1."""

    def test_valid_namings_are_those_without_conflicts(self):
        shown = set()
        for program in some_programs():
            pairs = all_conflicts(program)
            for naming in itertools.product("abc", repeat=count(program)):
                different = all(naming[one] != naming[other] for one, other in pairs)
                self.assertIs(is_valid(program, naming), different, (program, naming))
                self.assertEqual(find_problems(program, naming) == (), different)
                shown.add(different)
        self.assertEqual(shown, {True, False})

    def test_safe_renames_are_those_without_a_conflicting_declaration_that_has_the_name(self):
        shown = set()
        for program in itertools.chain(small_programs(2), random_programs(34, 40, scopes=5, declarations=4)):
            for naming in valid_namings(program, "abc"):
                safe = all_renames(program, naming, tuple("abcd"))
                for number, name in itertools.product(range(count(program)), "abcd"):
                    if name == naming[number]:
                        continue
                    expected = is_valid(program, renamed(naming, number, name))
                    holders = [other for other in conflicts_of(program, number) if naming[other] == name]
                    self.assertEqual(holders == [], expected)
                    self.assertEqual(blockers(program, naming, number, name) == (), expected)
                    self.assertEqual((number, name) in safe, expected)
                    self.assertEqual(self.can_rename(program, naming, number, name), expected)
                    shown.add(expected)
        self.assertEqual(shown, {True, False})

    def can_rename(self, program, naming, number, name):
        try:
            rename(program, naming, number, name)
        except Clash:
            return False
        return True


class FewestNamesTest(unittest.TestCase):
    """G2."""

    def test_no_naming_with_fewer_names_than_the_width_is_valid(self):
        for program in some_programs():
            if count(program) == 0:
                continue
            for naming in itertools.product(HUNDRED[:width_of(program) - 1], repeat=count(program)):
                self.assertIs(is_valid(program, naming), False, (program, naming))

    def test_the_numbers_of_names_of_valid_namings(self):
        for program in itertools.chain(small_programs(2), random_programs(32, 40, scopes=5, declarations=4)):
            many = count(program)
            namings = itertools.product(HUNDRED[:many], repeat=many)
            found = {len(set(naming)) for naming in namings if is_valid(program, naming)}
            self.assertEqual(found, set(range(width_of(program), many + 1)))

    def test_a_scope_whose_load_is_the_width_shows_it(self):
        for program in itertools.chain(PROGRAMS, random_programs(33, 40)):
            naming = smallest_naming(program, HUNDRED[:60])
            scope = widest_scope(program)
            self.assertEqual(len(needed_in(program, scope)), width_of(program))
            self.assertIs(shows_fewest(program, naming, scope), True)


class OneNameMoreTest(unittest.TestCase):
    """G3, and G4 for what find_plan returns."""

    def check(self, program, start, goal, pool):
        plan = find_plan(program, start, goal, pool)
        self.assertLessEqual(len(plan), 4 * count(program) * height_of(program))
        self.assertEqual(follow_by_validity(self, program, start, plan, pool), goal)

    def test_from_every_naming_to_every_other_one(self):
        for program in itertools.chain([EXAMPLE], small_programs(2), random_programs(35, 10, scopes=5, declarations=4)):
            pool = HUNDRED[:width_of(program) + 1]
            namings = valid_namings(program, pool)
            for start, goal in itertools.islice(itertools.product(namings, repeat=2), 0, None, 1 + len(namings) // 10):
                self.check(program, start, goal, pool)

    def test_somewhat_larger_programs(self):
        source = random.Random(36)
        for program in random_programs(37, 60, scopes=10, declarations=12):
            for more in (1, 3):
                pool = HUNDRED[:width_of(program) + more]
                self.check(program, *(random_valid_naming(source, program, pool) for _ in range(2)), pool)


class EveryMomentTest(unittest.TestCase):
    """G4, and of G7 that each declaration can be given each name."""

    def test_gathering(self):
        source = random.Random(38)
        for program in random_programs(39, 60, scopes=10, declarations=12):
            pool = HUNDRED[:width_of(program) + 1]
            naming = random_valid_naming(source, program, pool)
            follow_by_validity(self, program, naming, gather(program, naming, pool), pool)

    def test_each_declaration_and_each_name(self):
        source = random.Random(40)
        for program in random_programs(41, 20, scopes=8, declarations=8):
            pool = HUNDRED[:width_of(program) + 1]
            naming = random_valid_naming(source, program, pool)
            for number, name in itertools.product(range(count(program)), pool):
                plan = plan_to_name(program, naming, number, name, pool)
                self.assertEqual(follow_by_validity(self, program, naming, plan, pool)[number], name)


class TightPoolsTest(unittest.TestCase):
    """G5."""

    def tight_cases(self):
        """Programs with a pool of as many names as the width, a valid naming, and all namings that it can reach."""
        source = random.Random(42)
        programs = [grown(source, (HELD, LOOSER)[at % 2], source.randrange(3)) for at in range(20)]
        for program in itertools.chain([EXAMPLE], small_programs(2), programs, random_programs(43, 120, 7, 6)):
            pool = HUNDRED[:width_of(program)]
            naming = random_valid_naming(source, program, pool)
            yield program, pool, naming, distances(program, naming, range(count(program)), pool)

    def test_a_frozen_declaration_never_changes_its_name(self):
        shown = 0
        for program, pool, naming, reached in self.tight_cases():
            frozen = frozen_declarations(program, pool)
            self.assertEqual({named(other, frozen) for other in reached}, {named(naming, frozen)})
            shown += len(frozen) > 0 and len(reached) > 1
        self.assertGreater(shown, 50)

    def test_parts_are_independent_of_each_other(self):
        shown = 0
        for program, pool, naming, reached in self.tight_cases():
            parts = parts_of(program, pool)
            found = [reachable_namings(program, naming, part, pool) for part in parts]
            self.assertEqual(
                {tuple(named(other, part) for part in parts) for other in reached}, set(itertools.product(*found)))
            self.assertEqual(len(reached), math.prod(map(len, found)))
            shown += len([namings for namings in found if len(namings) > 1]) > 1
        self.assertGreater(shown, 20)

    def test_within_a_free_part_every_naming_can_be_reached(self):
        shown = 0
        for program, pool, naming, _ in self.tight_cases():
            for part in parts_of(program, pool):
                if is_free(program, part, pool):
                    valid = [
                        names for names in itertools.product(pool, repeat=len(part))
                        if is_valid(program, with_names(naming, dict(zip(part, names))))]
                    self.assertEqual(reachable_namings(program, naming, part, pool), tuple(sorted(valid)))
                    shown += len(part) > 1
        self.assertGreater(shown, 10)

    def test_routes_tell_what_can_be_reached(self):
        shown = set()
        for program, pool, naming, reached in self.tight_cases():
            if len(pool) ** count(program) > 300:
                continue
            for goal in valid_namings(program, pool):
                route = find_route(program, naming, goal, pool)
                self.assertEqual(route[0] == "plan", goal in reached)
                self.assertIs(shows_route(program, naming, goal, pool, route), True)
                if route[0] == "plan":
                    self.assertEqual(follow_by_validity(self, program, naming, route[1], pool), goal)
                shown.add(route[0])
        self.assertLessEqual({"plan", "frozen"}, shown)

    def test_routes_tell_what_can_be_reached_where_names_are_held(self):
        shown = set()
        for program, start in ((HELD, HELD_NAMING), (LOOSER, HELD_NAMING + ("b",)), (LOOSER, HELD_GOAL + ("c",))):
            pool = ("a", "b", "c")
            reached = distances(program, start, range(count(program)), pool)
            for goal in valid_namings(program, pool):
                route = find_route(program, start, goal, pool)
                self.assertEqual(route[0] == "plan", goal in reached)
                self.assertIs(shows_route(program, start, goal, pool, route), True)
                shown.add(route[0])
        self.assertEqual(shown, {"plan", "frozen", "closed"})

    def test_what_is_shown_to_have_no_plan_has_none(self):
        # No value with a frozen declaration or a closed set is shown where there is a plan.
        for program, pool, naming, reached in self.tight_cases():
            for goal in itertools.islice(reached, 0, None, 1 + len(reached) // 5):
                for number, scope in itertools.product(range(count(program)), range(len(program))):
                    self.assertIs(shows_route(program, naming, goal, pool, ("frozen", number, scope)), False)
                for part in parts_of(program, pool):
                    namings = reachable_namings(program, naming, part, pool)
                    without = tuple(names for names in namings if names != named(goal, part))
                    for value in (namings, without):
                        self.assertIs(shows_route(program, naming, goal, pool, ("closed", part, value)), False)


class FewestRenamesTest(unittest.TestCase):
    """G6, and G4 for shortest plans."""

    def test_the_sum_of_the_fewest_renames_within_all_parts(self):
        source = random.Random(44)
        shown = 0
        for program, more in itertools.product(random_programs(45, 150, scopes=7, declarations=6), (0, 1)):
            pool = HUNDRED[:width_of(program) + more]
            if len(pool) ** count(program) > 800:
                continue
            start = random_valid_naming(source, program, pool)
            steps = distances(program, start, range(count(program)), pool)
            parts = parts_of(program, pool)
            for goal in source.sample(sorted(steps), min(4, len(steps))):
                numbers = [
                    distances(program, start, part, pool)[with_names(start, dict(zip(part, named(goal, part))))]
                    for part in parts]
                self.assertEqual(sum(numbers), steps[goal])
                self.assertEqual(fewest_renames(program, start, goal, pool), steps[goal])
                plan = shortest_plan(program, start, goal, pool)
                self.assertEqual(follow_by_validity(self, program, start, plan, pool), goal)
                shown += len([number for number in numbers if number]) > 1
        self.assertGreater(shown, 50)


class RoomTest(unittest.TestCase):
    """G7: a new use. G4 for the plans for it."""

    def test_every_new_use(self):
        source = random.Random(46)
        for program in itertools.chain(small_programs(2), random_programs(47, 60, scopes=8, declarations=8)):
            pool = HUNDRED[:width_of(program) + 1]
            naming = random_valid_naming(source, program, pool)
            for number, scope in itertools.product(range(count(program)), range(len(program))):
                if homes(program)[number] in enclosing(program)[scope]:
                    later = add_use(program, number, scope)
                    self.assertIn(width_of(later) - width_of(program), (0, 1))
                    plan = plan_for_use(program, naming, number, scope, pool)
                    last = follow_by_validity(self, program, naming, plan, pool)
                    self.assertIs(is_valid(later, last), True)


class WorkspaceTest(unittest.TestCase):
    """G3, G4 and G7 for what a workspace does."""

    def test_every_moment_of_many_changes(self):
        source = random.Random(48)
        shown = collections.Counter()
        for program in itertools.chain([EXAMPLE, HELD], random_programs(49, 25, scopes=9, declarations=10)):
            pool = HUNDRED[:width_of(program) + 1]
            space = Workspace(program, random_valid_naming(source, program, pool), pool)
            for _ in range(25 if count(program) else 0):
                shown += self.make_a_change(source, space)
        self.assertGreater(min(shown[method] for method in ("go_to", "give_name", "use_in", "no room")), 10, shown)

    def make_a_change(self, source, space):
        """One call with a plan, which succeeds wherever the pool has more names than the width."""
        program, naming, pool = space.current_program(), space.current_naming(), space.current_pool()
        number = source.randrange(count(program))
        scope = source.choice([at for at in range(len(program)) if homes(program)[number] in enclosing(program)[at]])
        method, arguments = source.choice((
            ("go_to", (random_valid_naming(source, program, pool),)), ("give_name", (number, source.choice(pool))),
            ("use_in", (number, scope))))
        try:
            plan = getattr(space, method)(*arguments)
        except TooFewNames:
            self.assertEqual(len(pool), width_of(program))
            space.widen_pool(HUNDRED[len(pool)])
            return collections.Counter(["no room"])
        self.assertLessEqual(len(plan), 4 * count(program) * height_of(program))
        self.assertEqual(follow_by_validity(self, program, naming, plan, pool), space.current_naming())
        self.assertIs(is_valid(space.current_program(), space.current_naming()), True)
        return collections.Counter([method])


class TextsTest(unittest.TestCase):
    """G8."""

    def test_what_is_written_is_read_as_the_same_program_and_naming(self):
        source = random.Random(50)
        for program in itertools.chain(some_programs(), PROGRAMS, random_programs(51, 40)):
            naming = random_valid_naming(source, program, HUNDRED[:width_of(program) + 1])
            self.assertEqual(read_program(write_program(program, naming)), (program, naming))

    def test_texts_that_differ_in_what_does_not_matter(self):
        source = random.Random(52)
        for program in itertools.chain(some_programs(), PROGRAMS, random_programs(53, 20)):
            namings = [random_valid_naming(source, program, HUNDRED[:width_of(program) + 2]) for _ in range(2)]
            one, other = (texts.shuffled(source, program, naming, 3) for naming in namings)
            self.assertIs(same_program(one, other), True)
            self.assertEqual(read_program(one), (program, namings[0]))
            self.assertEqual(read_program(other), (program, namings[1]))

    def test_texts_that_differ_in_what_matters(self):
        # Two texts that are accepted and describe the same program are written alike once the names are alike, too.
        accepted = []
        for many in range(6):
            for lines in itertools.product(("let a", "let b", "use a", "{", "}"), repeat=many):
                try:
                    read_program("\n".join(lines))
                except BadText:
                    continue
                accepted.append("\n".join(lines))
        source = random.Random(54)
        shown = set()
        for one, other in (source.sample(accepted, 2) for _ in range(4000)):
            expected = canonical(one) == canonical(other)
            self.assertIs(same_program(one, other), expected, (one, other))
            shown.add(expected)
        self.assertEqual(shown, {True, False})


def canonical(text):
    """A text without what does not matter: the lines of each scope sorted by kinds, each use once, and new names.

    The let lines and the inner scopes keep their sequence. Each use is replaced by the place of its declaration.
    """
    waiting = texts.lines_in(text)

    def rows_of():
        lets, uses, inner = [], set(), []
        while waiting:
            line = waiting.pop(0)
            if line == "}":
                break
            if line == "{":
                inner.append(rows_of())
            else:
                (lets.append if line.startswith("let ") else uses.add)(line[4:])
        return lets, uses, inner

    def found_by(name, around):
        depth = max(depth for depth, lets in enumerate(around) if name in lets)
        return depth, around[depth].index(name)

    def described(rows, around):
        lets, uses, inner = rows
        around = around + [lets]
        return len(lets), sorted(found_by(name, around) for name in uses), [described(row, around) for row in inner]

    return described(rows_of(), [])


if __name__ == "__main__":
    unittest.main()

"""Tests of the guarantees of the document, mostly by going through all namings of small programs."""

import itertools
import unittest

from renamesteps.fewest import shows_fewest, smallest_naming
from renamesteps.regions import all_conflicts, needed_in, widest_scope, width_of
from renamesteps.validity import find_problems, is_valid
from tests.definitions import count
from tests.samples import EXAMPLE, HUNDRED, PROGRAMS, programs_of_shape, random_programs, small_programs


def some_programs():
    """All programs with up to three declarations, and some with more."""
    yield from small_programs(3)
    yield EXAMPLE
    yield from random_programs(31, 60, scopes=5, declarations=5)
    yield from itertools.islice(programs_of_shape((-1, 0, 1, 0), (1, 1, 1, 1)), 0, None, 5)


class ConflictsTest(unittest.TestCase):
    """G1."""

    def test_valid_namings_are_those_without_conflicts(self):
        shown = set()
        for program in some_programs():
            pairs = all_conflicts(program)
            for naming in itertools.product("abc", repeat=count(program)):
                different = all(naming[one] != naming[other] for one, other in pairs)
                self.assertIs(is_valid(program, naming), different, (program, naming))
                self.assertEqual(find_problems(program, naming) == (), different)
                shown.add(different)
        self.assertEqual(shown, {True, False})


class FewestNamesTest(unittest.TestCase):
    """G2."""

    def test_no_naming_with_fewer_names_than_the_width_is_valid(self):
        for program in some_programs():
            if count(program) == 0:
                continue
            for naming in itertools.product(HUNDRED[:width_of(program) - 1], repeat=count(program)):
                self.assertIs(is_valid(program, naming), False, (program, naming))

    def test_the_numbers_of_names_of_valid_namings(self):
        for program in itertools.chain(small_programs(2), random_programs(32, 40, scopes=5, declarations=4)):
            many = count(program)
            namings = itertools.product(HUNDRED[:many], repeat=many)
            found = {len(set(naming)) for naming in namings if is_valid(program, naming)}
            self.assertEqual(found, set(range(width_of(program), many + 1)))

    def test_a_scope_whose_load_is_the_width_shows_it(self):
        for program in itertools.chain(PROGRAMS, random_programs(33, 40)):
            naming = smallest_naming(program, HUNDRED[:60])
            scope = widest_scope(program)
            self.assertEqual(len(needed_in(program, scope)), width_of(program))
            self.assertIs(shows_fewest(program, naming, scope), True)


if __name__ == "__main__":
    unittest.main()

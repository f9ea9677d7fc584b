"""Tests of the module fewest."""

import itertools
import random
import unittest

from renamesteps.errors import NoScope, TooFewNames
from renamesteps.fewest import shows_fewest, smallest_naming
from renamesteps.regions import widest_scope, width_of
from renamesteps.validity import is_valid
from tests import definitions
from tests.samples import (
    BARE, BARE_CHAIN, BESIDE, CHAIN, CROWDED, EXAMPLE, FUNNEL, GAPS, HUNDRED, LINKS, PROGRAMS, SINGLE, random_programs,
    random_valid_naming, small_programs, wrong_numbers)


def by_definition(program, pool):
    """The naming that the document describes step by step."""
    conflicts = definitions.conflicts(program)
    naming = []
    for number in range(len(definitions.homes(program))):
        taken = [naming[other] for other in range(number) if (other, number) in conflicts]
        naming.append([name for name in pool if name not in taken][0])
    return tuple(naming)


class SmallestNamingTest(unittest.TestCase):
    def test_namings(self):
        self.assertEqual(smallest_naming(EXAMPLE, ("b", "a")), ("b", "a", "a", "b"))
        self.assertEqual(smallest_naming(SINGLE, ("x",)), ("x",))
        self.assertEqual(smallest_naming(GAPS, ("c", "b", "a")), ("c", "b", "c", "b", "a"))
        self.assertEqual(smallest_naming(CHAIN, ("x", "y", "z")), ("x",) + ("y",) * 39)
        self.assertEqual(smallest_naming(BESIDE, ("x", "y")), ("x",) + ("y",) * 39)
        self.assertEqual(smallest_naming(LINKS, ("x", "y")), ("x", "y") * 20)
        self.assertEqual(smallest_naming(FUNNEL, HUNDRED[:40]), HUNDRED[:40])
        self.assertEqual(smallest_naming(CROWDED, HUNDRED[20:80]), HUNDRED[20:80])

    def test_a_name_that_becomes_free_again(self):
        program = ((-1, 3, ()), (0, 2, (1,)), (1, 1, (3,)))
        self.assertEqual(smallest_naming(program, ("p", "q", "r")), ("p", "q", "r", "p", "r", "q"))

    def test_programs_without_declarations(self):
        for program, pool in itertools.product((BARE, BARE_CHAIN), ((), ("a",), ("b", "a"))):
            self.assertEqual(smallest_naming(program, pool), ())

    def test_pools_of_as_many_names_as_the_width_and_of_more(self):
        for program in itertools.chain(PROGRAMS, random_programs(21, 40), small_programs(2)):
            width = definitions.width(program)
            for many in (width, width + 1, width + 5, 80):
                pool = HUNDRED[many::-1][:many]
                naming = smallest_naming(program, pool)
                self.assertIs(type(naming), tuple)
                self.assertEqual(naming, by_definition(program, pool))
                self.assertIs(is_valid(program, naming), True)
                self.assertEqual(set(naming), set(pool[:width]))

    def test_too_few_names(self):
        for program in itertools.chain(PROGRAMS, random_programs(22, 20), small_programs(2)):
            width = definitions.width(program)
            for many in range(width):
                with self.assertRaises(TooFewNames) as context:
                    smallest_naming(program, HUNDRED[:many])
                self.assertEqual(context.exception.needed, width)


class ShowsFewestTest(unittest.TestCase):
    def test_as_many_names_as_the_load(self):
        self.assertIs(shows_fewest(EXAMPLE, ("x", "y", "y", "x"), 0), True)
        self.assertIs(shows_fewest(EXAMPLE, ("x", "y", "y", "y"), 0), True)
        self.assertIs(shows_fewest(CROWDED, HUNDRED[:60], 0), True)
        self.assertIs(shows_fewest(LINKS, ("x", "y") * 20, 39), True)

    def test_more_names_than_the_load(self):
        self.assertIs(shows_fewest(EXAMPLE, ("x", "y", "z", "x"), 0), False)
        self.assertIs(shows_fewest(EXAMPLE, ("x", "y", "y", "x"), 2), False)
        self.assertIs(shows_fewest(LINKS, ("x", "y") * 20, 0), False)

    def test_fewer_names_than_the_load(self):
        self.assertIs(shows_fewest(EXAMPLE, ("x",) * 4, 0), False)
        self.assertIs(shows_fewest(CROWDED, HUNDRED[:59] + HUNDRED[:1], 0), False)

    def test_a_naming_that_is_not_valid(self):
        self.assertIs(shows_fewest(EXAMPLE, ("x", "x", "y", "y"), 0), False)
        self.assertIs(shows_fewest(EXAMPLE, ("x", "y", "x", "y"), 1), False)
        self.assertIs(shows_fewest(EXAMPLE, ("x",) * 4, 2), False)

    def test_no_names(self):
        self.assertIs(shows_fewest(BARE, (), 0), True)
        self.assertIs(shows_fewest(BARE_CHAIN, (), 39), True)

    def test_the_smallest_naming_and_the_widest_scope(self):
        for program in itertools.chain(PROGRAMS, random_programs(23, 20)):
            naming = smallest_naming(program, HUNDRED[:80])
            self.assertIs(shows_fewest(program, naming, widest_scope(program)), True)

    def test_every_scope_with_namings_of_all_sorts(self):
        source = random.Random(24)
        shown = []
        for program in itertools.chain(PROGRAMS, random_programs(25, 20)):
            width = width_of(program)
            namings = [random_valid_naming(source, program, HUNDRED[:width + many]) for many in (0, 0, 1, 3)]
            namings.append(tuple(source.choice(HUNDRED[:width]) for _ in namings[0]))
            loads = definitions.loads(program)
            for naming in namings:
                load = len(set(naming)) if definitions.valid(program, naming) else None
                for scope in range(len(program)):
                    self.assertIs(shows_fewest(program, naming, scope), loads[scope] == load)
                    shown.append(loads[scope] == load)
        self.assertEqual(set(shown), {True, False})

    def test_no_scope_ahead_of_all_else(self):
        for program in PROGRAMS:
            many = definitions.count(program)
            for value in wrong_numbers(len(program)):
                for naming in (HUNDRED[:many], ("a",) * many):
                    with self.subTest(kind=type(value)), self.assertRaises(NoScope) as context:
                        shows_fewest(program, naming, value)
                    self.assertIs(context.exception.scope, value)


if __name__ == "__main__":
    unittest.main()

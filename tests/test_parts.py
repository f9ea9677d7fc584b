"""Tests of the module parts."""

import itertools
import unittest

from renamesteps.parts import frozen_declarations, full_scopes, is_free, parts_of
from renamesteps.regions import in_conflict
from tests import definitions
from tests.definitions import count
from tests.samples import (
    BARE, BARE_CHAIN, BESIDE, CROWDED, EXAMPLE, FUNNEL, HUNDRED, LINKS, PROGRAMS, SINGLE, random_programs,
    small_programs)

# Declarations 0 to 2 conflict one after the other, and the scope beside them is wider.
ROW = ((-1, 0, ()), (0, 1, ()), (1, 1, (0,)), (2, 1, (1,)), (0, 3, ()))
# Declarations 1 and 2 both conflict with declaration 0, which is needed in the widest scope, too.
STAR = ((-1, 1, ()), (0, 1, (0,)), (0, 1, (0,)), (0, 2, (0,)))


def all_programs(seed):
    return itertools.chain(PROGRAMS, (ROW, STAR), random_programs(seed, 30), small_programs(2))


def tight(program):
    """A pool of exactly as many names as the width."""
    return HUNDRED[:definitions.width(program)]


class FullScopesTest(unittest.TestCase):
    def test_full_scopes(self):
        self.assertEqual(full_scopes(EXAMPLE, ("b", "a")), (0, 1))
        self.assertEqual(full_scopes(ROW, ("a", "b", "c")), (4,))
        self.assertEqual(full_scopes(STAR, ("a", "b", "c")), (3,))
        self.assertEqual(full_scopes(LINKS, ("a", "b")), tuple(range(1, 40)))
        self.assertEqual(full_scopes(BESIDE, ("a", "b")), tuple(range(1, 40)))
        self.assertEqual(full_scopes(FUNNEL, HUNDRED[:40]), (39,))
        self.assertEqual(full_scopes(CROWDED, HUNDRED[:60]), (0,))

    def test_a_program_without_declarations(self):
        # With no names at all, the load 0 of each scope equals their number.
        self.assertEqual(full_scopes(BARE, ()), (0,))
        self.assertEqual(full_scopes(BARE_CHAIN, ()), tuple(range(40)))
        self.assertEqual(full_scopes(BARE, ("a",)), ())

    def test_the_definition(self):
        for program in all_programs(81):
            width = definitions.width(program)
            self.assertEqual(full_scopes(program, tight(program)), definitions.full(program, width))

    def test_more_names_than_the_width(self):
        for program in all_programs(82):
            for more in (1, 2, 20):
                self.assertEqual(full_scopes(program, HUNDRED[:definitions.width(program) + more]), ())


class FrozenDeclarationsTest(unittest.TestCase):
    def test_frozen_declarations(self):
        self.assertEqual(frozen_declarations(EXAMPLE, ("b", "a")), (0, 1, 2))
        self.assertEqual(frozen_declarations(ROW, ("a", "b", "c")), (3, 4, 5))
        self.assertEqual(frozen_declarations(STAR, ("a", "b", "c")), (0, 3, 4))
        self.assertEqual(frozen_declarations(LINKS, ("a", "b")), tuple(range(40)))
        self.assertEqual(frozen_declarations(SINGLE, ("a",)), (0,))

    def test_a_program_without_declarations(self):
        for program, pool in itertools.product((BARE, BARE_CHAIN), ((), ("a",))):
            self.assertEqual(frozen_declarations(program, pool), ())

    def test_the_definition(self):
        for program in all_programs(83):
            width = definitions.width(program)
            self.assertEqual(frozen_declarations(program, tight(program)), definitions.frozen(program, width))

    def test_more_names_than_the_width(self):
        for program in all_programs(84):
            for more in (1, 2, 20):
                self.assertEqual(frozen_declarations(program, HUNDRED[:definitions.width(program) + more]), ())


class PartsTest(unittest.TestCase):
    def test_parts_linked_only_through_others(self):
        self.assertIs(in_conflict(ROW, 0, 2), False)
        self.assertEqual(parts_of(ROW, ("a", "b", "c")), ((0, 1, 2),))
        self.assertEqual(parts_of(ROW, ("a", "b", "c", "d")), ((0, 1, 2), (3, 4, 5)))
        self.assertEqual(parts_of(LINKS, ("a", "b", "c")), (tuple(range(40)),))
        self.assertEqual(parts_of(BESIDE, ("a", "b", "c")), (tuple(range(40)),))

    def test_frozen_declarations_link_nothing(self):
        self.assertEqual(parts_of(STAR, ("a", "b", "c")), ((1,), (2,)))
        self.assertEqual(parts_of(STAR, ("a", "b", "c", "d")), ((0, 1, 2, 3, 4),))

    def test_parts_in_ascending_order(self):
        # A part whose declarations stand around those of another one.
        program = ((-1, 0, ()), (0, 1, ()), (1, 1, ()), (2, 1, (1,)), (1, 1, (0,)), (0, 4, ()))
        self.assertEqual(parts_of(program, HUNDRED[:4]), ((0, 3), (1, 2)))
        self.assertEqual(parts_of(program, HUNDRED[:5]), ((0, 3), (1, 2), (4, 5, 6, 7)))

    def test_everything_is_frozen(self):
        for program in (SINGLE, CROWDED, FUNNEL, LINKS, BESIDE):
            self.assertEqual(parts_of(program, tight(program)), ())

    def test_a_program_without_declarations(self):
        for program, pool in itertools.product((BARE, BARE_CHAIN), ((), ("a",))):
            self.assertEqual(parts_of(program, pool), ())

    def test_the_definition(self):
        for program in all_programs(85):
            width = definitions.width(program)
            for more in (0, 1, 2):
                pool = HUNDRED[:width + more]
                parts = parts_of(program, pool)
                self.assertEqual([type(parts)] + [type(part) for part in parts], [tuple] * (len(parts) + 1))
                self.assertEqual(parts, definitions.parts(program, width + more))

    def test_every_declaration_is_frozen_or_in_one_part(self):
        for program in all_programs(86):
            pool = tight(program)
            found = itertools.chain(frozen_declarations(program, pool), *parts_of(program, pool))
            self.assertEqual(sorted(found), list(range(count(program))))


class FreeTest(unittest.TestCase):
    def test_parts_that_are_free(self):
        self.assertIs(is_free(ROW, (0, 1, 2), ("a", "b", "c")), True)
        self.assertIs(is_free(EXAMPLE, (3,), ("b", "a")), True)

    def test_parts_that_are_not_free(self):
        self.assertIs(is_free(STAR, (1,), ("a", "b", "c")), False)
        self.assertIs(is_free(STAR, (2,), ("a", "b", "c")), False)
        # Only the first declaration of the part conflicts with a frozen one.
        program = ((-1, 1, ()), (0, 2, (0,)), (0, 1, (0,)), (2, 1, (3,)))
        self.assertEqual(frozen_declarations(program, ("a", "b", "c")), (0, 1, 2))
        self.assertEqual(parts_of(program, ("a", "b", "c")), ((3, 4),))
        self.assertIs(is_free(program, (3, 4), ("a", "b", "c")), False)
        # Only the last one does.
        program = ((-1, 0, ()), (0, 1, ()), (1, 1, (0,)), (2, 1, (1,)), (3, 3, (2,)))
        self.assertEqual(frozen_declarations(program, HUNDRED[:4]), (2, 3, 4, 5))
        self.assertEqual(parts_of(program, HUNDRED[:4]), ((0, 1),))
        self.assertIs(is_free(program, (0, 1), HUNDRED[:4]), False)

    def test_the_definition(self):
        shown = set()
        for program in all_programs(87):
            width = definitions.width(program)
            for part in definitions.parts(program, width):
                expected = definitions.free(program, part, width)
                self.assertIs(is_free(program, part, tight(program)), expected)
                shown.add(expected)
        self.assertEqual(shown, {True, False})

    def test_more_names_than_the_width(self):
        for program in all_programs(88):
            for more in (1, 2):
                pool = HUNDRED[:definitions.width(program) + more]
                for part in parts_of(program, pool):
                    self.assertIs(is_free(program, part, pool), True)


if __name__ == "__main__":
    unittest.main()

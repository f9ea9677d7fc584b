"""Tests of the module validity."""

import random
import unittest

from renamesteps.errors import BadNaming
from renamesteps.names import look_up
from renamesteps.validity import check_naming, find_problems, is_valid
from tests import definitions
from tests.definitions import count
from tests.samples import (
    BARE, BARE_CHAIN, BESIDE, CHAIN, CROWDED, EXAMPLE, FAR, FUNNEL, GAPS, HUNDRED, LARGEST, LINKS, PROGRAMS, SINGLE,
    any_values, random_programs, random_valid_naming)


class ProblemsTest(unittest.TestCase):
    def test_one_name_for_all(self):
        self.assertEqual(
            find_problems(EXAMPLE, ("q",) * 4), (("duplicate", 0, 0, 1), ("captured", 0, 1, 0), ("captured", 1, 0, 2)))
        self.assertEqual(find_problems(SINGLE, ("q",)), ())
        self.assertEqual(
            find_problems(CHAIN, ("q",) * 40), tuple(("captured", scope, 0, scope) for scope in range(1, 40)))
        self.assertEqual(
            find_problems(BESIDE, ("q",) * 40), tuple(("captured", scope, 0, scope) for scope in range(1, 40)))
        self.assertEqual(
            find_problems(LINKS, ("q",) * 40), tuple(("captured", scope, scope - 1, scope) for scope in range(1, 40)))
        self.assertEqual(
            find_problems(FUNNEL, ("q",) * 40), tuple(("captured", 39, number, 39) for number in range(39)))

    def test_one_name_for_sixty_declarations_of_one_scope(self):
        pairs = [("duplicate", 0, first, second) for first in range(60) for second in range(first + 1, 60)]
        uses = [("captured", 0, number, 0) for number in range(1, 60)]
        self.assertEqual(find_problems(CROWDED, ("q",) * 60), tuple(pairs + uses))

    def test_a_name_that_three_declarations_of_one_scope_have(self):
        program = ((-1, 4, ()),)
        self.assertEqual(
            find_problems(program, ("a", "b", "a", "a")),
            (("duplicate", 0, 0, 2), ("duplicate", 0, 0, 3), ("duplicate", 0, 2, 3)))
        self.assertEqual(
            find_problems(((-1, 4, (0, 2, 3)),), ("a", "b", "a", "a")),
            (("duplicate", 0, 0, 2), ("duplicate", 0, 0, 3), ("duplicate", 0, 2, 3),
             ("captured", 0, 2, 0), ("captured", 0, 3, 0)))

    def test_several_duplicates_and_captures_in_their_order(self):
        program = ((-1, 4, (1, 2, 3)), (0, 4, (0, 1, 2, 5, 7)), (1, 1, (0, 4, 7, 8)))
        naming = ("a", "b", "a", "b", "b", "a", "b", "a", "a")
        self.assertEqual(find_problems(program, naming), (
            ("duplicate", 0, 0, 2), ("duplicate", 0, 1, 3), ("captured", 0, 2, 0), ("captured", 0, 3, 1),
            ("duplicate", 1, 4, 6), ("duplicate", 1, 5, 7), ("captured", 1, 0, 5), ("captured", 1, 1, 4),
            ("captured", 1, 2, 5), ("captured", 1, 7, 5),
            ("captured", 2, 0, 8), ("captured", 2, 7, 8)))

    def test_what_a_captured_use_finds(self):
        program = ((-1, 2, (0, 1)), (0, 1, (0,)), (1, 0, (0,)))
        # A declaration of the scope of the use, and of a scope between it and the home.
        self.assertEqual(find_problems(program, ("a", "b", "a")), (("captured", 1, 0, 2), ("captured", 2, 0, 2)))
        # A declaration of the home itself, with a smaller number.
        self.assertEqual(find_problems(program, ("b", "b", "a")), (("duplicate", 0, 0, 1), ("captured", 0, 1, 0)))
        # The innermost one of several.
        program = ((-1, 1, ()), (0, 1, ()), (1, 1, ()), (2, 0, (0,)))
        self.assertEqual(find_problems(program, ("a", "a", "a")), (("captured", 3, 0, 2),))
        self.assertEqual(find_problems(program, ("a", "a", "b")), (("captured", 3, 0, 1),))
        self.assertEqual(find_problems(program, ("a", "b", "b")), ())

    def test_a_duplicate_without_a_use(self):
        self.assertEqual(find_problems(((-1, 2, ()),), ("a", "a")), (("duplicate", 0, 0, 1),))
        self.assertEqual(find_problems(((-1, 2, (0,)),), ("a", "a")), (("duplicate", 0, 0, 1),))

    def test_an_inner_declaration_that_hides_one_without_capturing_a_use(self):
        self.assertEqual(find_problems(((-1, 1, (0,)), (0, 1, (1,))), ("a", "a")), ())
        self.assertEqual(find_problems(((-1, 1, ()), (0, 1, ()), (0, 0, (0,))), ("a", "a")), ())

    def test_programs_without_declarations(self):
        for program in (BARE, BARE_CHAIN):
            self.assertEqual(find_problems(program, ()), ())
            self.assertIs(is_valid(program, ()), True)

    def test_different_names_are_valid(self):
        for program in PROGRAMS:
            self.assertEqual(find_problems(program, HUNDRED[:count(program)]), ())
            self.assertIs(is_valid(program, HUNDRED[:count(program)]), True)

    def test_a_far_use(self):
        self.assertIs(is_valid(FAR, ("a",)), True)
        program = FAR[:20] + ((19, 1, ()),) + FAR[21:]
        self.assertEqual(find_problems(program, ("a", "a")), (("captured", 39, 0, 1),))
        self.assertEqual(find_problems(program, ("a", "b")), ())


class AgreementTest(unittest.TestCase):
    def check(self, program, naming):
        expected = definitions.problems(program, naming)
        self.assertEqual(find_problems(program, naming), expected)
        self.assertIs(is_valid(program, naming), expected == ())

    def test_the_definition_in_large_programs(self):
        source = random.Random(3)
        shown = set()
        for program in list(PROGRAMS) + list(random_programs(4, 40)):
            self.check(program, ("a",) * count(program))
            for names in range(2, 6):
                naming = tuple(source.choice(HUNDRED[:names]) for _ in range(count(program)))
                self.check(program, naming)
                shown |= {row[0] for row in find_problems(program, naming)}
        self.assertEqual(shown, {"duplicate", "captured"})

    def test_valid_namings_of_large_programs(self):
        source = random.Random(5)
        for program in list(PROGRAMS) + list(random_programs(6, 40)):
            naming = random_valid_naming(source, program, HUNDRED[:definitions.width(program) + source.randrange(3)])
            self.check(program, naming)
            self.assertIs(is_valid(program, naming), True)

    def test_captured_uses_find_what_look_up_finds(self):
        source = random.Random(7)
        for program in [LARGEST, GAPS] + list(random_programs(8, 10)):
            naming = tuple(source.choice("abc") for _ in range(count(program)))
            for kind, scope, declaration, found in find_problems(program, naming):
                if kind == "captured":
                    self.assertEqual(look_up(program, naming, scope, naming[declaration]), found)


class CheckNamingTest(unittest.TestCase):
    """The check that gather and the functions of plans share: without it, some of them would not come to an end."""

    def test_valid_namings_with_names_of_the_pool(self):
        self.assertIsNone(check_naming(EXAMPLE, ("a", "b", "b", "a"), ("b", "a")))
        self.assertIsNone(check_naming(BARE, (), ()))

    def test_bad_naming(self):
        wrong = [
            ("a", "a", "b", "b"), ("a", "b", "a", "a"), ("a", "b", "b", "c"), ("a", "b", "b"), ["a", "b", "b", "a"]]
        for value in wrong + any_values():
            with self.subTest(kind=type(value)), self.assertRaises(BadNaming) as context:
                check_naming(EXAMPLE, value, ("a", "b"))
            self.assertIs(context.exception.naming, value)


if __name__ == "__main__":
    unittest.main()

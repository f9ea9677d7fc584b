"""Tests of the module names."""

import random
import unittest

from renamesteps.errors import NoScope
from renamesteps.names import is_name, is_naming, is_pool, look_up
from tests import definitions
from tests.samples import (
    BARE, BARE_CHAIN, CHAIN, CROWDED, EXAMPLE, GAPS, HUNDRED, LETTERS, PROGRAMS, any_values, wrong_numbers)


class IsNameTest(unittest.TestCase):
    def test_names(self):
        for value in [*LETTERS, "ab", "zz", "azaz", "abcdefg", "abcdefgh", "zzzzzzzz"]:
            with self.subTest(value):
                self.assertIs(is_name(value), True)

    def test_lengths(self):
        for length in range(20):
            self.assertIs(is_name("q" * length), 1 <= length <= 8)

    def test_other_characters(self):
        wrong = ["A", "Z", "0", "9", "_", "-", " ", "\n", "\t", "\0", "`", "{", "a\u0301", "\u00e4", "\u00df", "\u0131",
                 "\u00aa", "\u0430", "\uff41", "\U0001d41a", "\ud800", "%", "\\", "."]
        for character in wrong:
            with self.subTest(repr(character)):
                self.assertIs(is_name(character), False)
                self.assertIs(is_name("a" + character), False)
                self.assertIs(is_name(character + "a"), False)
                self.assertIs(is_name("a" + character + "a"), False)

    def test_every_single_character(self):
        found = [chr(code) for code in range(0x3000) if is_name(chr(code))]
        self.assertEqual("".join(found), LETTERS)

    def test_values_of_any_kind(self):
        for value in any_values() + [0, 1, (), ("a",), ("a", "b")]:
            with self.subTest(kind=type(value)):
                self.assertIs(is_name(value), False)


class IsPoolTest(unittest.TestCase):
    def test_pools(self):
        for value in [(), ("a",), ("b", "a"), ("a", "aa", "aaa"), tuple(LETTERS), HUNDRED[:79], HUNDRED[:80]]:
            with self.subTest(value=value):
                self.assertIs(is_pool(value), True)

    def test_too_many_names(self):
        for count in (81, 82, 100):
            self.assertIs(is_pool(HUNDRED[:count]), False)

    def test_names_twice(self):
        self.assertIs(is_pool(("a", "a")), False)
        self.assertIs(is_pool(("a", "b", "a")), False)
        self.assertIs(is_pool(HUNDRED[:79] + ("aa",)), False)

    def test_members_that_are_no_names(self):
        for value in any_values() + [0, (), ("a",)]:
            with self.subTest(kind=type(value)):
                self.assertIs(is_pool((value,)), False)
                self.assertIs(is_pool(("a", value)), False)
                self.assertIs(is_pool((value, "a")), False)

    def test_other_kinds_in_place_of_a_tuple(self):
        for value in (["a", "b"], [], {"a": 1, "b": 2}, {}, {"a", "b"}, set(), frozenset("ab"), "ab", "", b"ab", iter("a")):
            with self.subTest(kind=type(value)):
                self.assertIs(is_pool(value), False)

    def test_values_of_any_kind(self):
        for value in any_values() + [0, 1]:
            with self.subTest(kind=type(value)):
                self.assertIs(is_pool(value), False)


class IsNamingTest(unittest.TestCase):
    def test_namings(self):
        self.assertIs(is_naming(EXAMPLE, ("a", "b", "c", "d")), True)
        self.assertIs(is_naming(EXAMPLE, ("a", "a", "a", "a")), True)
        self.assertIs(is_naming(CROWDED, HUNDRED[:60]), True)
        self.assertIs(is_naming(CROWDED, ("abcdefgh",) * 60), True)

    def test_too_few_and_too_many_names(self):
        for program in PROGRAMS:
            many = sum(row[1] for row in program)
            for length in range(many + 3):
                self.assertIs(is_naming(program, ("a",) * length), length == many)

    def test_members_that_are_no_names(self):
        for value in any_values() + [0, (), ("a",)]:
            for at in range(4):
                naming = ["a", "b", "c", "d"]
                naming[at] = value
                with self.subTest(kind=type(value), at=at):
                    self.assertIs(is_naming(EXAMPLE, tuple(naming)), False)

    def test_a_program_without_declarations(self):
        for program in (BARE, BARE_CHAIN):
            self.assertIs(is_naming(program, ()), True)
            self.assertIs(is_naming(program, ("a",)), False)
            for value in ([], "", b"", {}, set(), None, 0, False):
                with self.subTest(value=value):
                    self.assertIs(is_naming(program, value), False)

    def test_other_kinds_in_place_of_a_tuple(self):
        for value in (["a", "b", "c", "d"], "abcd", b"abcd", dict.fromkeys("abcd"), set("abcd"), iter("abcd")):
            with self.subTest(kind=type(value)):
                self.assertIs(is_naming(EXAMPLE, value), False)

    def test_values_of_any_kind(self):
        for program in (EXAMPLE, BARE, CROWDED):
            for value in any_values() + [0, 1, 4]:
                with self.subTest(kind=type(value)):
                    self.assertIs(is_naming(program, value), False)


class LookUpTest(unittest.TestCase):
    def test_a_name_that_an_inner_scope_hides(self):
        self.assertEqual([look_up(CHAIN, ("a",) * 40, scope, "a") for scope in range(40)], list(range(40)))
        self.assertEqual(look_up(EXAMPLE, ("a", "b", "a", "c"), 1, "a"), 2)
        self.assertEqual(look_up(EXAMPLE, ("a", "b", "a", "c"), 0, "a"), 0)
        self.assertEqual(look_up(EXAMPLE, ("a", "b", "a", "c"), 2, "a"), 0)

    def test_a_name_that_one_scope_declares_twice(self):
        self.assertEqual(look_up(EXAMPLE, ("a", "a", "b", "c"), 0, "a"), 0)
        self.assertEqual(look_up(EXAMPLE, ("a", "a", "b", "c"), 2, "a"), 0)
        self.assertEqual(look_up(GAPS, ("a", "a", "b", "a", "a"), 2, "a"), 0)
        self.assertEqual(look_up(GAPS, ("a", "a", "b", "a", "a"), 5, "a"), 3)
        self.assertEqual(look_up(CROWDED, ("a",) * 30 + ("b",) * 30, 0, "b"), 30)

    def test_a_name_that_is_declared_only_in_a_scope_beside_or_inside(self):
        naming = ("a", "b", "c", "d")
        self.assertIsNone(look_up(EXAMPLE, naming, 1, "d"))
        self.assertIsNone(look_up(EXAMPLE, naming, 2, "c"))
        self.assertIsNone(look_up(EXAMPLE, naming, 0, "c"))
        self.assertIsNone(look_up(GAPS, ("a", "b", "c", "d", "e"), 4, "c"))
        self.assertIsNone(look_up(GAPS, ("a", "b", "c", "d", "e"), 6, "a"))

    def test_the_way_outward(self):
        naming = tuple(HUNDRED[:40])
        for scope in range(40):
            for declaration in range(40):
                found = look_up(CHAIN, naming, scope, naming[declaration])
                self.assertEqual(found, declaration if declaration <= scope else None)

    def test_names_that_are_not_found(self):
        for program in PROGRAMS:
            naming = ("a",) * sum(row[1] for row in program)
            for scope in range(len(program)):
                for name in ("b", "aa", "zzzzzzzz"):
                    self.assertIsNone(look_up(program, naming, scope, name))

    def test_a_program_without_declarations(self):
        self.assertIsNone(look_up(BARE, (), 0, "a"))
        self.assertIsNone(look_up(BARE_CHAIN, (), 39, "a"))

    def test_values_of_any_kind_as_name(self):
        for scope in range(3):
            for value in any_values() + [0, 1, (), ("a",), ["a"], b"b", ("a", "b", "b", "a")]:
                with self.subTest(kind=type(value)):
                    self.assertIsNone(look_up(EXAMPLE, ("a", "b", "b", "a"), scope, value))

    def test_no_scope(self):
        for program in PROGRAMS:
            naming = ("a",) * sum(row[1] for row in program)
            for value in wrong_numbers(len(program)):
                for name in ("a", "b", None, [], "A"):
                    with self.subTest(kind=type(value), name=name), self.assertRaises(NoScope) as context:
                        look_up(program, naming, value, name)
                    self.assertIs(context.exception.scope, value)

    def test_the_definition_in_many_programs(self):
        source = random.Random(2)
        for program in (EXAMPLE, GAPS, CHAIN, CROWDED):
            for _ in range(30):
                naming = tuple(source.choice("abcd") for row in program for _ in range(row[1]))
                for scope in range(len(program)):
                    for name in "abcde":
                        expected = definitions.looked_up(program, naming, scope, name)
                        self.assertEqual(look_up(program, naming, scope, name), expected)


if __name__ == "__main__":
    unittest.main()

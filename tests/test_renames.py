"""Tests of the module renames."""

import itertools
import random
import unittest

from renamesteps.errors import BadName, Clash, NoDeclaration
from renamesteps.renames import all_renames, blockers, free_names, rename
from tests import definitions
from tests.definitions import count
from tests.samples import (
    BARE, BARE_CHAIN, BESIDE, CROWDED, EXAMPLE, FUNNEL, HUNDRED, LINKS, PROGRAMS, SINGLE, any_values, random_programs,
    random_valid_naming, small_programs, wrong_numbers)

NAMING = ("a", "b", "b", "a")


def cases(seed):
    """Programs of up to 40 scopes and 60 declarations, valid namings, and pools with and without their names."""
    source = random.Random(seed)
    for program in itertools.chain(PROGRAMS, random_programs(seed, 12)):
        width = definitions.width(program)
        many = width + source.randrange(4)
        naming = random_valid_naming(source, program, HUNDRED[:many])
        yield program, naming, tuple(source.sample(HUNDRED[:many], many))
        yield program, naming, HUNDRED[many:many + 3]
        yield program, naming, HUNDRED[:many + 2:2]
        yield program, naming, ()


class BlockersTest(unittest.TestCase):
    def test_blockers(self):
        found = [[blockers(EXAMPLE, NAMING, number, name) for name in ("a", "b", "c")] for number in range(4)]
        self.assertEqual(found, [[(), (1, 2), ()], [(0,), (), ()], [(0,), (), ()], [(), (), ()]])

    def test_all_blockers_in_ascending_order(self):
        self.assertEqual(blockers(BESIDE, ("a",) + ("b", "c", "b") * 13, 0, "b"),
                         tuple(number for number in range(1, 40) if number % 3 != 2))
        self.assertEqual(blockers(BESIDE, ("a",) + ("b", "c", "b") * 13, 0, "c"), tuple(range(2, 40, 3)))
        self.assertEqual(blockers(BESIDE, ("a",) + ("b",) * 39, 7, "a"), (0,))

    def test_the_name_that_the_declaration_has(self):
        for program in PROGRAMS:
            for number in range(count(program)):
                self.assertEqual(blockers(program, HUNDRED[:count(program)], number, HUNDRED[number]), ())

    def test_only_conflicting_declarations(self):
        self.assertEqual(blockers(LINKS, ("a", "b") * 20, 7, "a"), (6, 8))
        self.assertEqual(blockers(LINKS, ("a", "b") * 20, 39, "a"), (38,))

    def test_the_definition(self):
        for program, naming, pool in cases(41):
            conflicts = definitions.conflicts(program)
            for number in range(count(program)):
                for name in pool[:10] + ("zz",):
                    expected = [other for other in range(count(program))
                                if (number, other) in conflicts and naming[other] == name]
                    self.assertEqual(blockers(program, naming, number, name), tuple(expected))

    def test_no_declaration(self):
        for program in (EXAMPLE, SINGLE, BARE, LINKS):
            naming = HUNDRED[:count(program)]
            for value in wrong_numbers(count(program)):
                with self.subTest(kind=type(value)), self.assertRaises(NoDeclaration) as context:
                    blockers(program, naming, value, "a")
                self.assertIs(context.exception.declaration, value)


class FreeNamesTest(unittest.TestCase):
    def test_free_names(self):
        found = [free_names(EXAMPLE, NAMING, number, ("c", "b", "a")) for number in range(4)]
        self.assertEqual(found, [("c",), ("c",), ("c",), ("c", "b")])

    def test_the_order_of_the_pool(self):
        for pool in itertools.permutations(("a", "b", "c", "d")):
            self.assertEqual(free_names(EXAMPLE, NAMING, 0, pool), tuple(name for name in pool if name in "cd"))
            self.assertEqual(free_names(EXAMPLE, NAMING, 3, pool), tuple(name for name in pool if name != "a"))

    def test_pools_without_the_names_in_use(self):
        self.assertEqual(free_names(EXAMPLE, NAMING, 0, ("y", "x")), ("y", "x"))
        self.assertEqual(free_names(EXAMPLE, NAMING, 0, ("b",)), ())
        self.assertEqual(free_names(EXAMPLE, NAMING, 0, ()), ())

    def test_no_name_is_free(self):
        for number in range(60):
            self.assertEqual(free_names(CROWDED, HUNDRED[:60], number, HUNDRED[:60]), ())
        self.assertEqual(free_names(FUNNEL, HUNDRED[:40], 20, HUNDRED[:41]), HUNDRED[40:41])

    def test_no_declaration(self):
        for program in (EXAMPLE, SINGLE, BARE, LINKS):
            naming = HUNDRED[:count(program)]
            for value in wrong_numbers(count(program)):
                with self.subTest(kind=type(value)), self.assertRaises(NoDeclaration) as context:
                    free_names(program, naming, value, ("a", "b"))
                self.assertIs(context.exception.declaration, value)


class RenameTest(unittest.TestCase):
    def test_renames(self):
        self.assertEqual(rename(EXAMPLE, NAMING, 0, "c"), ("c", "b", "b", "a"))
        self.assertEqual(rename(EXAMPLE, NAMING, 1, "xyz"), ("a", "xyz", "b", "a"))
        self.assertEqual(rename(EXAMPLE, NAMING, 3, "b"), ("a", "b", "b", "b"))
        self.assertEqual(rename(SINGLE, ("a",), 0, "abcdefgh"), ("abcdefgh",))
        self.assertEqual(rename(CROWDED, HUNDRED[:60], 59, "zz"), HUNDRED[:59] + ("zz",))

    def test_the_name_that_the_declaration_has_already(self):
        for program in PROGRAMS:
            naming = HUNDRED[:count(program)]
            for number in range(count(program)):
                self.assertIs(rename(program, naming, number, HUNDRED[number]), naming)

    def test_clash_with_the_smallest_conflicting_declaration(self):
        def clash(program, naming, number, name):
            with self.assertRaises(Clash) as context:
                rename(program, naming, number, name)
            return context.exception.other
        self.assertEqual(clash(EXAMPLE, NAMING, 0, "b"), 1)
        self.assertEqual(clash(EXAMPLE, ("a", "c", "b", "b"), 0, "b"), 2)
        self.assertEqual(clash(EXAMPLE, NAMING, 2, "a"), 0)
        self.assertEqual(clash(BESIDE, ("a",) + ("b",) * 20 + ("c",) * 19, 0, "c"), 21)
        self.assertEqual(clash(LINKS, ("a", "b") * 20, 20, "b"), 19)
        self.assertEqual(clash(CROWDED, HUNDRED[:60], 3, HUNDRED[50]), 50)

    def test_values_of_any_kind_as_name(self):
        for value in any_values() + [0, 1, -1, (), ("a",), "abcdefghi", "B", "c "]:
            for number in range(4):
                with self.subTest(kind=type(value)), self.assertRaises(BadName) as context:
                    rename(EXAMPLE, NAMING, number, value)
                self.assertIs(context.exception.name, value)

    def test_no_declaration_ahead_of_bad_name(self):
        for value, name in itertools.product(wrong_numbers(4), (None, "", "A", "a", "b", "c", ["a"])):
            with self.assertRaises(NoDeclaration) as context:
                rename(EXAMPLE, NAMING, value, name)
            self.assertIs(context.exception.declaration, value)

    def test_every_declaration_with_every_name(self):
        for program, naming, pool in cases(42):
            conflicts = definitions.conflicts(program)
            for number in range(count(program)):
                for name in pool[:10]:
                    holders = [other for other in range(count(program))
                               if (number, other) in conflicts and naming[other] == name]
                    if not holders:
                        expected = definitions.renamed(naming, number, name)
                        self.assertEqual(rename(program, naming, number, name), expected)
                        continue
                    with self.assertRaises(Clash) as context:
                        rename(program, naming, number, name)
                    self.assertEqual(context.exception.other, holders[0])


class AllRenamesTest(unittest.TestCase):
    def test_the_order(self):
        self.assertEqual(
            all_renames(EXAMPLE, NAMING, ("d", "b", "a", "c")),
            ((0, "d"), (0, "c"), (1, "d"), (1, "c"), (2, "d"), (2, "c"), (3, "d"), (3, "b"), (3, "c")))
        self.assertEqual(all_renames(SINGLE, ("b",), ("c", "b", "a")), ((0, "c"), (0, "a")))

    def test_none(self):
        self.assertEqual(all_renames(CROWDED, HUNDRED[:60], HUNDRED[:60]), ())
        self.assertEqual(all_renames(EXAMPLE, NAMING, ()), ())
        self.assertEqual([all_renames(program, (), ("a", "b")) for program in (BARE, BARE_CHAIN)], [(), ()])

    def test_pools_without_the_names_in_use(self):
        self.assertEqual(all_renames(EXAMPLE, NAMING, ("z",)), ((0, "z"), (1, "z"), (2, "z"), (3, "z")))

    def test_the_free_names_of_all_declarations(self):
        for program, naming, pool in cases(43):
            free = [free_names(program, naming, number, pool) for number in range(count(program))]
            expected = tuple((number, name) for number, names in enumerate(free) for name in names)
            self.assertEqual(all_renames(program, naming, pool), expected)
            conflicts = definitions.conflicts(program)
            for number, names in enumerate(free):
                taken = {naming[other] for other in range(len(naming)) if (number, other) in conflicts}
                expected = [name for name in pool if name != naming[number] and name not in taken]
                self.assertEqual(names, tuple(expected))

    def test_the_definition_for_small_programs(self):
        for program in itertools.chain(small_programs(2), random_programs(44, 20, scopes=5, declarations=4)):
            for naming in definitions.valid_namings(program, "abc"):
                for pool in (("c", "a", "b"), ("b",), ("d", "e"), ("d", "a")):
                    expected = tuple((number, name) for number in range(count(program)) for name in pool
                                     if definitions.safe(program, naming, number, name))
                    self.assertEqual(all_renames(program, naming, pool), expected)


if __name__ == "__main__":
    unittest.main()

"""Tests of the module regions."""

import itertools
import unittest

from renamesteps.errors import NoDeclaration, NoScope
from renamesteps.regions import (
    all_conflicts, conflicts_of, in_conflict, needed_in, region_of, widest_scope, width_of)
from tests import definitions
from tests.definitions import count
from tests.samples import (
    BARE, BARE_CHAIN, BESIDE, CHAIN, CROWDED, EXAMPLE, FAR, FUNNEL, GAPS, LINKS, PROGRAMS, SINGLE, random_programs,
    small_programs, wrong_numbers)


class RegionTest(unittest.TestCase):
    def test_declarations_without_uses(self):
        self.assertEqual(region_of(SINGLE, 0), (0,))
        self.assertEqual(region_of(GAPS, 3), (5,))
        self.assertEqual([region_of(((-1, 2, ()), (0, 2, ())), number) for number in range(4)], [(0,), (0,), (1,), (1,)])

    def test_uses_in_the_home_only(self):
        self.assertEqual([region_of(CROWDED, number) for number in range(60)], [(0,)] * 60)
        self.assertEqual(region_of(GAPS, 0), (1,))

    def test_a_use_far_inside(self):
        self.assertEqual(region_of(FAR, 0), tuple(range(40)))
        for number in range(40):
            self.assertEqual(region_of(FUNNEL, number), tuple(range(number, 40)))

    def test_several_uses_on_one_way(self):
        self.assertEqual(region_of(CHAIN, 0), tuple(range(40)))
        self.assertEqual(region_of(((-1, 1, (0,)), (0, 0, ()), (1, 0, (0,)), (2, 0, ()), (3, 0, (0,)), (4, 0, ())), 0),
                         (0, 1, 2, 3, 4))

    def test_uses_on_several_ways(self):
        program = ((-1, 1, ()), (0, 0, ()), (1, 0, (0,)), (1, 0, ()), (0, 0, ()), (4, 0, ()), (5, 0, (0,)), (4, 0, ()))
        self.assertEqual(region_of(program, 0), (0, 1, 2, 4, 5, 6))
        self.assertEqual(region_of(BESIDE, 0), tuple(range(40)))

    def test_scopes_around_the_home_are_not_in_the_region(self):
        program = ((-1, 0, ()), (0, 1, ()), (1, 0, (0,)), (0, 0, ()))
        self.assertEqual(region_of(program, 0), (1, 2))

    def test_scopes_in_which_nothing_is_needed(self):
        for program in (BARE, BARE_CHAIN):
            self.assertEqual([needed_in(program, scope) for scope in range(len(program))], [()] * len(program))
        self.assertEqual([needed_in(GAPS, scope) for scope in range(8)],
                         [(), (0, 1), (1,), (), (), (2, 3, 4), (), ()])

    def test_what_is_needed(self):
        self.assertEqual([needed_in(FAR, scope) for scope in range(40)], [(0,)] * 40)
        self.assertEqual(needed_in(CROWDED, 0), tuple(range(60)))
        for scope in range(40):
            self.assertEqual(needed_in(FUNNEL, scope), tuple(range(scope + 1)))
            self.assertEqual(needed_in(BESIDE, scope), (0, scope) if scope else (0,))
            self.assertEqual(needed_in(LINKS, scope), (scope - 1, scope) if scope else (0,))

    def test_the_definition(self):
        for program in itertools.chain(PROGRAMS, random_programs(11, 30), small_programs(2)):
            for number in range(count(program)):
                self.assertEqual(region_of(program, number), tuple(sorted(definitions.region(program, number))))
            for scope in range(len(program)):
                self.assertEqual(needed_in(program, scope), definitions.needed(program, scope))

    def test_no_declaration(self):
        for program in PROGRAMS:
            for value in wrong_numbers(count(program)):
                with self.subTest(kind=type(value)), self.assertRaises(NoDeclaration) as context:
                    region_of(program, value)
                self.assertIs(context.exception.declaration, value)

    def test_no_scope(self):
        for program in PROGRAMS:
            for value in wrong_numbers(len(program)):
                with self.subTest(kind=type(value)), self.assertRaises(NoScope) as context:
                    needed_in(program, value)
                self.assertIs(context.exception.scope, value)


class ConflictTest(unittest.TestCase):
    def test_a_declaration_with_itself(self):
        for program in PROGRAMS:
            for number in range(count(program)):
                self.assertIs(in_conflict(program, number, number), False)
                self.assertNotIn(number, conflicts_of(program, number))

    def test_declarations_of_one_scope(self):
        self.assertIs(in_conflict(((-1, 2, ()),), 0, 1), True)
        self.assertEqual(conflicts_of(CROWDED, 30), tuple(number for number in range(60) if number != 30))
        self.assertEqual(all_conflicts(CROWDED), tuple(itertools.combinations(range(60), 2)))

    def test_declarations_of_scopes_beside_one_another(self):
        program = ((-1, 0, ()), (0, 1, (0,)), (0, 1, (1,)))
        self.assertIs(in_conflict(program, 0, 1), False)
        self.assertEqual(all_conflicts(program), ())
        self.assertEqual(all_conflicts(BESIDE), tuple((0, number) for number in range(1, 40)))
        self.assertEqual(conflicts_of(BESIDE, 7), (0,))

    def test_declarations_of_scopes_inside_one_another(self):
        without = ((-1, 1, (0,)), (0, 1, (1,)), (1, 0, (1,)))
        there = ((-1, 1, (0,)), (0, 1, (0, 1)), (1, 0, (1,)))
        further = ((-1, 1, (0,)), (0, 1, (1,)), (1, 0, (0, 1)))
        beside = ((-1, 1, (0,)), (0, 1, (1,)), (0, 0, (0,)))
        found = [in_conflict(program, 0, 1) for program in (without, there, further, beside)]
        self.assertEqual(found, [False, True, True, False])
        found = [all_conflicts(program) for program in (without, there, further, beside)]
        self.assertEqual(found, [(), ((0, 1),), ((0, 1),), ()])

    def test_regions_that_meet_only_at_an_end(self):
        program = ((-1, 1, ()), (0, 0, (0,)), (1, 1, (1,)))
        self.assertIs(in_conflict(program, 0, 1), False)
        self.assertEqual(all_conflicts(LINKS), tuple((number, number + 1) for number in range(39)))

    def test_both_orders(self):
        for program in (EXAMPLE, GAPS, BESIDE, LINKS):
            for one, other in itertools.product(range(count(program)), repeat=2):
                self.assertIs(in_conflict(program, one, other), in_conflict(program, other, one))

    def test_the_order_of_what_is_returned(self):
        program = ((-1, 3, ()), (0, 2, (0, 2)), (0, 1, (1, 2)))
        self.assertEqual(
            all_conflicts(program),
            ((0, 1), (0, 2), (0, 3), (0, 4), (1, 2), (1, 5), (2, 3), (2, 4), (2, 5), (3, 4)))
        self.assertEqual(
            [conflicts_of(program, number) for number in range(6)],
            [(1, 2, 3, 4), (0, 2, 5), (0, 1, 3, 4, 5), (0, 2, 4), (0, 2, 3), (1, 2)])

    def test_no_declarations(self):
        self.assertEqual([all_conflicts(program) for program in (BARE, BARE_CHAIN, SINGLE)], [(), (), ()])
        self.assertEqual(conflicts_of(SINGLE, 0), ())

    def test_the_definition(self):
        for program in itertools.chain(PROGRAMS, random_programs(12, 30), small_programs(2)):
            pairs = definitions.conflicts(program)
            self.assertEqual(all_conflicts(program), tuple(sorted(pair for pair in pairs if pair[0] < pair[1])))
            for number in range(count(program)):
                expected = tuple(other for other in range(count(program)) if (number, other) in pairs)
                self.assertEqual(conflicts_of(program, number), expected)

    def test_the_definition_for_each_two_declarations(self):
        for program in random_programs(13, 10, scopes=10, declarations=15):
            pairs = definitions.conflicts(program)
            for one, other in itertools.product(range(count(program)), repeat=2):
                self.assertIs(in_conflict(program, one, other), (one, other) in pairs)

    def test_no_declaration(self):
        for program in PROGRAMS:
            for value in wrong_numbers(count(program)):
                with self.subTest(kind=type(value)), self.assertRaises(NoDeclaration) as context:
                    conflicts_of(program, value)
                self.assertIs(context.exception.declaration, value)

    def test_no_declaration_as_one_or_other(self):
        for value in wrong_numbers(4):
            for arguments in ((value, 0), (0, value)):
                with self.subTest(kind=type(value)), self.assertRaises(NoDeclaration) as context:
                    in_conflict(EXAMPLE, *arguments)
                self.assertIs(context.exception.declaration, value)

    def test_no_declaration_as_both(self):
        for one, other in itertools.product(wrong_numbers(4), repeat=2):
            with self.assertRaises(NoDeclaration) as context:
                in_conflict(EXAMPLE, one, other)
            self.assertIs(context.exception.declaration, one)
            with self.assertRaises(NoDeclaration) as context:
                in_conflict(other=other, one=one, program=EXAMPLE)
            self.assertIs(context.exception.declaration, one)


class WidthTest(unittest.TestCase):
    def check(self, program, width, scope):
        self.assertEqual((width_of(program), widest_scope(program)), (width, scope))

    def test_programs_without_declarations(self):
        self.check(BARE, 0, 0)
        self.check(BARE_CHAIN, 0, 0)

    def test_one_scope_of_60_declarations(self):
        self.check(CROWDED, 60, 0)
        self.check(((-1, 0, ()), (0, 0, ()), (1, 60, ()), (0, 0, ())), 60, 2)

    def test_a_chain_whose_declarations_are_all_used_in_the_innermost_scope(self):
        self.check(FUNNEL, 40, 39)
        self.check(FUNNEL[:39] + ((38, 0, tuple(range(39))),), 39, 38)

    def test_39_scopes_beside_one_another(self):
        self.check(BESIDE, 2, 1)
        self.check(((-1, 1, ()),) + ((0, 1, ()),) * 39, 1, 0)
        self.check(((-1, 1, ()),) + ((0, 1, ()),) * 38 + ((0, 1, (0,)),), 2, 39)

    def test_several_scopes_with_the_greatest_load(self):
        self.check(EXAMPLE, 2, 0)
        self.check(CHAIN, 2, 1)
        self.check(LINKS, 2, 1)
        self.check(((-1, 1, ()), (0, 2, ()), (0, 3, ()), (0, 1, ()), (0, 3, ())), 3, 2)

    def test_declarations_that_are_needed_from_outside(self):
        self.check(((-1, 2, ()), (0, 1, (0,)), (1, 2, (0, 2))), 4, 2)
        self.check(FAR, 1, 0)

    def test_the_definition(self):
        for program in itertools.chain(PROGRAMS, random_programs(14, 40), small_programs(2)):
            loads = definitions.loads(program)
            self.check(program, max(loads), loads.index(max(loads)))
            self.assertEqual(len(needed_in(program, widest_scope(program))), width_of(program))


if __name__ == "__main__":
    unittest.main()

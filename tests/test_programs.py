"""Tests of the module programs."""

import itertools
import random
import unittest

from renamesteps.errors import NoDeclaration, NoScope
from renamesteps.programs import (
    declarations_of, enclosing_scopes, height_of, home_of, inner_scopes, is_program)
from tests.samples import (
    BARE, BARE_CHAIN, BESIDE, CHAIN, CROWDED, EXAMPLE, GAPS, LARGEST, PROGRAMS, SINGLE, any_values, wrong_numbers)


def encloses(program, outer, scope):
    """Whether the outer scope encloses the scope, straight from the definition."""
    return outer == scope or scope > 0 and encloses(program, outer, program[scope][0])


def agrees_with_definition(program):
    """Whether a tuple of well-formed scopes is a program, straight from the definition."""
    homes = [scope for scope, row in enumerate(program) for _ in range(row[1])]
    for scope, (parent, count, uses) in enumerate(program):
        if count < 0 or list(uses) != sorted(set(uses)):
            return False
        if scope == 0 and parent != -1:
            return False
        if scope > 0 and not (0 <= parent < scope and encloses(program, parent, scope - 1)):
            return False
        for use in uses:
            if not 0 <= use < len(homes) or homes[use] > scope or not encloses(program, homes[use], scope):
                return False
    return True


class IsProgramTest(unittest.TestCase):
    def assert_program(self, value):
        self.assertIs(is_program(value), True)

    def assert_no_program(self, value):
        self.assertIs(is_program(value), False)

    def test_programs(self):
        for program in PROGRAMS:
            with self.subTest(program=program):
                self.assert_program(program)

    def test_number_of_scopes(self):
        self.assert_no_program(())
        for count in (1, 2, 39, 40):
            self.assert_program(((-1, 0, ()),) + ((0, 0, ()),) * (count - 1))
            self.assert_program(tuple((scope - 1, 0, ()) for scope in range(count)))
        for count in (41, 42, 100):
            self.assert_no_program(((-1, 0, ()),) + ((0, 0, ()),) * (count - 1))
            self.assert_no_program(tuple((scope - 1, 0, ()) for scope in range(count)))

    def test_number_of_declarations(self):
        for counts in ((60,), (0, 60), (30, 30), (59, 1), (1, 59), (20, 0, 20, 20)):
            rows = [(scope - 1, count, ()) for scope, count in enumerate(counts)]
            self.assert_program(tuple(rows))
            rows[-1] = (rows[-1][0], rows[-1][1] + 1, ())
            self.assert_no_program(tuple(rows))
        self.assert_no_program(((-1, 10 ** 40, ()),))
        self.assert_no_program(((-1, 10 ** 40, (10 ** 39,)),))

    def test_both_limits_at_once(self):
        self.assertEqual((len(LARGEST), sum(row[1] for row in LARGEST)), (40, 60))
        self.assert_program(LARGEST)
        self.assert_no_program(LARGEST + ((39, 0, ()),))
        self.assert_no_program(LARGEST[:-1] + ((38, 2, (0,)),))

    def test_parent_of_scope_0(self):
        for parent in (0, 1, -2, 40, None, "", "-1", (), (-1,), [-1], False, True, b""):
            with self.subTest(parent=parent):
                self.assert_no_program(((parent, 0, ()),))
                self.assert_no_program(((parent, 0, ()), (0, 0, ())))

    def test_parents_that_break_preorder(self):
        self.assert_no_program(((-1, 0, ()), (-1, 0, ())))
        self.assert_no_program(((-1, 0, ()), (1, 0, ())))
        self.assert_no_program(((-1, 0, ()), (2, 0, ()), (1, 0, ())))
        self.assert_no_program(((-1, 0, ()), (0, 0, ()), (0, 0, ()), (1, 0, ())))
        self.assert_no_program(((-1, 0, ()), (0, 0, ()), (1, 0, ()), (0, 0, ()), (2, 0, ())))
        self.assert_program(((-1, 0, ()), (0, 0, ()), (1, 0, ()), (1, 0, ()), (0, 0, ()), (4, 0, ())))
        self.assert_no_program(CHAIN[:39] + ((-1, 0, ()),))
        self.assert_no_program(CHAIN[:39] + ((39, 0, ()),))

    def test_parent_that_is_a_negative_index(self):
        self.assert_no_program(((-1, 0, ()), (-2, 0, ())))
        self.assert_no_program(((-1, 0, ()), (0, 0, ()), (-3, 0, ())))

    def test_negative_count(self):
        self.assert_no_program(((-1, -1, ()),))
        self.assert_no_program(((-1, 1, ()), (0, -1, ())))
        self.assert_no_program(((-1, 61, ()), (0, -1, ())))
        self.assert_no_program(((-1, 0, ()), (0, -(10 ** 40), ())))

    def test_uses_that_are_not_ascending(self):
        self.assert_program(((-1, 3, (0, 1, 2)),))
        for uses in ((1, 0), (0, 0), (0, 1, 1), (0, 2, 1), (2, 1, 0), (2, 2, 2)):
            with self.subTest(uses=uses):
                self.assert_no_program(((-1, 3, uses),))

    def test_uses_of_numbers_that_no_declaration_has(self):
        for uses in ((3,), (0, 3), (-1,), (-3, 0), (-1, 0, 1, 2), (10 ** 40,)):
            with self.subTest(uses=uses):
                self.assert_no_program(((-1, 3, uses),))
        self.assert_no_program(((-1, 0, (0,)),))

    def test_uses_of_declarations_whose_home_does_not_enclose_the_scope(self):
        self.assert_no_program(((-1, 1, (1,)), (0, 1, ())))
        self.assert_no_program(((-1, 0, (0,)), (0, 1, ())))
        self.assert_no_program(((-1, 0, ()), (0, 1, ()), (0, 0, (0,))))
        self.assert_no_program(((-1, 0, ()), (0, 0, (0,)), (0, 1, ())))
        self.assert_program(((-1, 0, ()), (0, 1, ()), (1, 0, (0,)), (1, 0, (0,))))
        self.assert_no_program(((-1, 0, ()), (0, 1, ()), (1, 0, (0,)), (0, 0, (0,))))

    def test_other_kinds_in_place_of_tuples(self):
        self.assert_no_program(list(EXAMPLE))
        self.assert_no_program(([-1, 0, ()],))
        self.assert_no_program(((-1, 0, []),))
        self.assert_no_program(((-1, 1, [0]),))
        self.assert_no_program(((-1, 1, {0}),))
        self.assert_no_program(((-1, 1, {0: 0}),))
        self.assert_no_program(((-1, 1, range(1)),))
        self.assert_no_program(((-1, 0, ""),))
        self.assert_no_program(((-1, 0, b""),))
        self.assert_no_program(((-1, 0, None),))
        self.assert_no_program(((-1, 0, 0),))
        self.assert_no_program((b"abc",))
        self.assert_no_program(("abc",))

    def test_bools_in_place_of_integers(self):
        self.assert_no_program(((-1, False, ()),))
        self.assert_no_program(((-1, True, ()),))
        self.assert_no_program(((-1, 0, ()), (False, 0, ())))
        self.assert_no_program(((-1, 0, ()), (0, 0, ()), (True, 0, ())))
        self.assert_no_program(((-1, 2, (False,)),))
        self.assert_no_program(((-1, 2, (0, True)),))
        self.assert_no_program(((-1, 2, (False, True)),))

    def test_tuples_that_are_too_short_or_too_long(self):
        for row in ((), (-1,), (-1, 0), (-1, 0, (), ()), (-1, 0, (), 0), (-1, 0, (), None)):
            with self.subTest(row=row):
                self.assert_no_program((row,))
                self.assert_no_program(((-1, 0, ()), row))
        self.assert_no_program((-1, 0, ()))

    def test_values_of_any_kind(self):
        for value in any_values() + [0, 1, -1, 10 ** 40]:
            with self.subTest(kind=type(value)):
                self.assert_no_program(value)

    def test_values_of_any_kind_as_members(self):
        for value in any_values():
            with self.subTest(kind=type(value)):
                self.assert_no_program((value,))
                self.assert_no_program(((-1, 0, ()), value))
                self.assert_no_program(((value, 0, ()),))
                self.assert_no_program(((-1, 0, ()), (value, 0, ())))
                self.assert_no_program(((-1, value, ()),))
                self.assert_no_program(((-1, 1, (value,)),))
                self.assert_no_program(((-1, 2, (0, value)),))

    def test_values_of_any_kind_as_uses(self):
        for value in any_values():
            with self.subTest(kind=type(value)):
                self.assert_no_program(((-1, 0, value),))

    def test_all_small_tuples_of_scopes(self):
        uses = ((), (-1,), (0,), (1,), (2,), (0, 1), (1, 0), (1, 1))
        first = tuple(itertools.product((-1, 0), (-1, 0, 1, 2), uses))
        second = tuple(itertools.product((-1, 0, 1), (0, 1, 2), uses))
        accepted = 0
        for rows in [(row,) for row in first] + list(itertools.product(first, second)):
            self.assertIs(is_program(rows), agrees_with_definition(rows), rows)
            accepted += is_program(rows)
        self.assertGreater(accepted, 50)

    def test_all_small_parents(self):
        accepted = 0
        for parents in itertools.product(range(-1, 5), repeat=4):
            rows = ((-1, 0, ()),) + tuple((parent, 0, ()) for parent in parents)
            self.assertIs(is_program(rows), agrees_with_definition(rows), rows)
            accepted += is_program(rows)
        # There are 14 ordered trees of five nodes.
        self.assertEqual(accepted, 14)

    def test_uses_in_many_shapes(self):
        source = random.Random(1)
        accepted = 0
        for _ in range(4000):
            rows = [(-1, source.randrange(3), ())]
            for scope in range(1, source.randrange(2, 7)):
                rows.append((source.randrange(max(0, scope - 2), scope), source.randrange(3), ()))
            total = sum(row[1] for row in rows)
            for at in source.sample(range(len(rows)), 2):
                uses = tuple(sorted(source.sample(range(total + 1), source.randrange(min(3, total + 1)))))
                rows[at] = rows[at][:2] + (uses,)
            rows = tuple(rows)
            self.assertIs(is_program(rows), agrees_with_definition(rows), rows)
            accepted += is_program(rows)
        self.assertGreater(accepted, 400)
        self.assertLess(accepted, 3600)


class HomeTest(unittest.TestCase):
    def test_homes(self):
        self.assertEqual([home_of(EXAMPLE, declaration) for declaration in range(4)], [0, 0, 1, 2])
        self.assertEqual([home_of(GAPS, declaration) for declaration in range(5)], [1, 1, 5, 5, 5])
        self.assertEqual([home_of(CHAIN, declaration) for declaration in range(40)], list(range(40)))
        self.assertEqual([home_of(BESIDE, declaration) for declaration in range(40)], list(range(40)))
        self.assertEqual([home_of(CROWDED, declaration) for declaration in range(60)], [0] * 60)
        self.assertEqual(home_of(SINGLE, 0), 0)

    def test_declarations(self):
        self.assertEqual([declarations_of(EXAMPLE, scope) for scope in range(3)], [(0, 1), (2,), (3,)])
        self.assertEqual(
            [declarations_of(GAPS, scope) for scope in range(8)], [(), (0, 1), (), (), (), (2, 3, 4), (), ()])
        self.assertEqual([declarations_of(CHAIN, scope) for scope in range(40)], [(scope,) for scope in range(40)])
        self.assertEqual([declarations_of(BESIDE, scope) for scope in range(40)], [(scope,) for scope in range(40)])
        self.assertEqual(declarations_of(CROWDED, 0), tuple(range(60)))
        self.assertEqual(declarations_of(SINGLE, 0), (0,))
        self.assertEqual(declarations_of(BARE, 0), ())

    def test_declarations_and_homes_fit_together(self):
        for program in PROGRAMS:
            joined = []
            for scope in range(len(program)):
                found = declarations_of(program, scope)
                self.assertIsInstance(found, tuple)
                self.assertEqual([home_of(program, declaration) for declaration in found], [scope] * len(found))
                joined.extend(found)
            self.assertEqual(joined, list(range(sum(row[1] for row in program))))

    def test_no_declaration(self):
        for program in PROGRAMS:
            for value in wrong_numbers(sum(row[1] for row in program)):
                with self.subTest(kind=type(value)), self.assertRaises(NoDeclaration) as context:
                    home_of(program, value)
                self.assertIs(context.exception.declaration, value)

    def test_no_scope(self):
        for program in PROGRAMS:
            for value in wrong_numbers(len(program)):
                with self.subTest(kind=type(value)), self.assertRaises(NoScope) as context:
                    declarations_of(program, value)
                self.assertIs(context.exception.scope, value)


class EnclosingTest(unittest.TestCase):
    def test_enclosing_scopes(self):
        self.assertEqual([enclosing_scopes(EXAMPLE, scope) for scope in range(3)], [(0,), (1, 0), (2, 0)])
        self.assertEqual(
            [enclosing_scopes(GAPS, scope) for scope in range(8)],
            [(0,), (1, 0), (2, 1, 0), (3, 0), (4, 3, 0), (5, 4, 3, 0), (6, 3, 0), (7, 0)])
        self.assertEqual(enclosing_scopes(SINGLE, 0), (0,))
        self.assertEqual(enclosing_scopes(BARE, 0), (0,))
        for scope in range(40):
            self.assertEqual(enclosing_scopes(CHAIN, scope), tuple(range(scope, -1, -1)))
            self.assertEqual(enclosing_scopes(BESIDE, scope), (scope, 0) if scope else (0,))

    def test_inner_scopes(self):
        self.assertEqual([inner_scopes(EXAMPLE, scope) for scope in range(3)], [(0, 1, 2), (1,), (2,)])
        self.assertEqual(
            [inner_scopes(GAPS, scope) for scope in range(8)],
            [tuple(range(8)), (1, 2), (2,), (3, 4, 5, 6), (4, 5), (5,), (6,), (7,)])
        self.assertEqual(inner_scopes(SINGLE, 0), (0,))
        self.assertEqual(inner_scopes(BARE, 0), (0,))
        for scope in range(40):
            self.assertEqual(inner_scopes(CHAIN, scope), tuple(range(scope, 40)))
            self.assertEqual(inner_scopes(BESIDE, scope), (scope,) if scope else tuple(range(40)))

    def test_inner_and_enclosing_scopes_mirror_each_other(self):
        for program in PROGRAMS:
            for scope in range(len(program)):
                inner = inner_scopes(program, scope)
                self.assertIsInstance(inner, tuple)
                self.assertIsInstance(enclosing_scopes(program, scope), tuple)
                for other in range(len(program)):
                    self.assertEqual(other in inner, scope in enclosing_scopes(program, other))

    def test_height(self):
        heights = [height_of(program) for program in (EXAMPLE, SINGLE, BARE, CHAIN, BESIDE, BARE_CHAIN, CROWDED, GAPS)]
        self.assertEqual(heights, [2, 1, 1, 40, 2, 40, 1, 4])
        self.assertEqual(height_of(((-1, 0, ()), (0, 0, ()), (1, 0, ()), (0, 0, ()))), 3)

    def test_no_scope(self):
        for program in PROGRAMS:
            for value in wrong_numbers(len(program)):
                for function in (enclosing_scopes, inner_scopes):
                    with self.subTest(function.__name__, kind=type(value)), self.assertRaises(NoScope) as context:
                        function(program, value)
                    self.assertIs(context.exception.scope, value)


if __name__ == "__main__":
    unittest.main()

"""Tests of the module groups."""

import itertools
import random
import unittest

from renamesteps.errors import BadNaming, TooFewNames
from renamesteps.groups import gather, groups_of, shows_groups
from tests import definitions
from tests.definitions import count
from tests.following import follow, follow_by_validity
from tests.samples import (
    BARE, BARE_CHAIN, BESIDE, CROWDED, EXAMPLE, FUNNEL, HUNDRED, LINKS, PROGRAMS, SINGLE, any_values, random_programs,
    random_valid_naming, small_programs)

POOL = ("a", "b", "c")


class GroupsOfTest(unittest.TestCase):
    def check(self, program):
        groups = groups_of(program)
        self.assertEqual([type(groups)] + [type(group) for group in groups], [tuple] * (len(groups) + 1))
        self.assertEqual(len(groups), definitions.width(program))
        self.assertNotIn((), groups)
        self.assertEqual(list(groups), [tuple(sorted(group)) for group in groups])
        self.assertEqual(sorted(itertools.chain(*groups)), list(range(count(program))))
        self.assertEqual([group[0] for group in groups], sorted(group[0] for group in groups))
        for group in groups:
            for pair in itertools.combinations(group, 2):
                self.assertNotIn(pair, definitions.conflicts(program))
        self.assertIs(shows_groups(program, groups), True)
        self.assertEqual(groups_of(program), groups)

    def test_large_programs(self):
        for program in itertools.chain(PROGRAMS, random_programs(51, 40)):
            self.check(program)

    def test_small_programs(self):
        for program in small_programs(3):
            self.check(program)

    def test_programs_without_declarations(self):
        self.assertEqual([groups_of(program) for program in (BARE, BARE_CHAIN)], [(), ()])

    def test_groups_without_a_choice(self):
        self.assertEqual(groups_of(SINGLE), ((0,),))
        self.assertEqual(groups_of(CROWDED), tuple((number,) for number in range(60)))
        self.assertEqual(groups_of(FUNNEL), tuple((number,) for number in range(40)))
        self.assertEqual(groups_of(LINKS), (tuple(range(0, 40, 2)), tuple(range(1, 40, 2))))
        self.assertEqual(groups_of(BESIDE), ((0,), tuple(range(1, 40))))


class ShowsGroupsTest(unittest.TestCase):
    def check(self, program, right, wrong):
        for value in right:
            self.assertIs(shows_groups(program, value), True, value)
        for value in wrong:
            self.assertIs(shows_groups(program, value), False, value)

    def test_other_groups_than_those_of_groups_of(self):
        right = [((0, 3), (1, 2)), ((0,), (1, 2, 3))]
        self.check(EXAMPLE, right, [])
        self.assertTrue(any(value != groups_of(EXAMPLE) for value in right))

    def test_out_of_order(self):
        self.check(EXAMPLE, [], [
            ((1, 2), (0, 3)), ((3, 0), (1, 2)), ((0, 3), (2, 1)), ((0,), (1, 3, 2)), ((1, 2, 3), (0,))])

    def test_an_empty_group(self):
        self.check(EXAMPLE, [], [
            ((), (0, 3), (1, 2)), ((0, 3), (1, 2), ()), ((0, 3), ()), ((), (0, 1, 2, 3)), ((), ())])
        self.check(BARE, [()], [((),)])
        self.check(SINGLE, [((0,),)], [(), ((),), ((), (0,))])

    def test_a_number_twice(self):
        self.check(EXAMPLE, [], [((0, 3), (1, 2, 3)), ((0, 3, 3), (1, 2)), ((0, 3), (1, 1, 2)), ((0,), (0, 1, 2, 3))])

    def test_a_number_missing_or_too_large(self):
        self.check(EXAMPLE, [], [
            ((0,), (1, 2)), ((0, 3), (1,)), ((0, 3), (2,)), ((0, 3), (1, 2, 4)), ((0, 4), (1, 2)), ((0, 3, 4), (1, 2)),
            ((-1, 0, 3), (1, 2)), ((-1, 3), (1, 2)), ((0, 10 ** 40), (1, 2))])

    def test_kinds_of_values(self):
        self.check(EXAMPLE, [], [
            ((False, 3), (1, 2)), ((0, 3), (True, 2)), ([0, 3], (1, 2)), ((0, 3), [1, 2]), [(0, 3), (1, 2)],
            (("0", 3), (1, 2)), ((0, None), (1, 2)), ((0, (3,)), (1, 2)), {0: (0, 3), 1: (1, 2)}, ((0, 3), range(1, 3)),
            ((0, 3), "12"), (0, 3), (0, 1), None, "ab", ((0, 3), {1, 2})])

    def test_too_many_or_too_few_groups(self):
        self.check(EXAMPLE, [], [((0,), (1, 2), (3,)), ((0,), (1,), (2,), (3,)), ((0, 1, 2, 3),), ()])
        self.check(LINKS, [], [tuple((number,) for number in range(40)), (tuple(range(40)),)])

    def test_two_conflicting_declarations(self):
        self.check(EXAMPLE, [], [((0, 1), (2, 3)), ((0, 2), (1, 3)), ((0, 1, 3), (2,)), ((0, 2, 3), (1,))])
        self.check(LINKS, [], [(tuple(range(20)), tuple(range(20, 40)))])

    def test_values_of_any_kind(self):
        for program in (EXAMPLE, SINGLE, BARE, CROWDED):
            self.check(program, [], any_values())
        self.check(EXAMPLE, [], [(value, (1, 2)) for value in any_values()])
        self.check(EXAMPLE, [], [((0, 3), value) for value in any_values()])
        self.check(EXAMPLE, [], [((0, value), (1, 2)) for value in any_values()])

    def test_all_tuples_of_groups_of_small_programs(self):
        # All ways to distribute the declarations to numbered groups, of which some are empty or out of order.
        shown = set()
        for program in itertools.chain([EXAMPLE], random_programs(52, 30, scopes=5, declarations=4)):
            conflicts = definitions.conflicts(program)
            for places in itertools.product(range(4), repeat=count(program)):
                value = tuple(tuple(number for number, place in enumerate(places) if place == group)
                              for group in range(max(places, default=-1) + 1))
                expected = (
                    len(value) == definitions.width(program) and () not in value and list(value) == sorted(value)
                    and all(places[one] != places[other] for one, other in conflicts))
                self.assertIs(shows_groups(program, value), expected)
                shown.add(expected)
        self.assertEqual(shown, {True, False})


class GatherTest(unittest.TestCase):
    def check(self, program, naming, pool, way=follow):
        plan = gather(program, naming, pool)
        self.assertLessEqual(len(plan), 2 * count(program) * (definitions.height(program) - 1))
        last = way(self, program, naming, plan, pool)
        place = {number: at for at, group in enumerate(groups_of(program)) for number in group}
        for one, other in itertools.combinations(range(count(program)), 2):
            self.assertEqual(last[one] == last[other], place[one] == place[other])
        self.assertEqual(gather(program, naming, pool), plan)

    def test_large_programs(self):
        source = random.Random(53)
        for program in itertools.chain(PROGRAMS, random_programs(54, 40)):
            for more in (1, 2, 6):
                many = definitions.width(program) + more
                pool = tuple(source.sample(HUNDRED[:many], many))
                self.check(program, random_valid_naming(source, program, pool), pool)

    def test_all_namings_of_small_programs(self):
        for program in itertools.chain(small_programs(2), random_programs(55, 40, scopes=6, declarations=5)):
            pool = HUNDRED[:definitions.width(program) + 1]
            for naming in definitions.valid_namings(program, pool)[:200]:
                self.check(program, naming, pool, follow_by_validity)

    def test_names_that_go_round_in_circles(self):
        # Each of the two inner scopes has three declarations that have the three outer names in another order.
        program = ((-1, 3, ()), (0, 3, ()), (1, 3, ()))
        for one, other in itertools.product(itertools.permutations("abc"), repeat=2):
            self.check(program, ("a", "b", "c") + one + other, ("a", "b", "c", "d"), follow_by_validity)

    def test_scopes_with_more_groups_than_their_parents(self):
        program = ((-1, 1, ()), (0, 0, ()), (1, 3, ()), (1, 2, ()), (1, 4, (0,)), (0, 5, ()), (5, 0, ()), (6, 5, ()))
        source = random.Random(56)
        for more in (1, 2, 3):
            pool = HUNDRED[:definitions.width(program) + more]
            for _ in range(30):
                self.check(program, random_valid_naming(source, program, pool), pool)

    def test_one_scope_needs_no_rename(self):
        self.assertEqual(gather(CROWDED, HUNDRED[:60], HUNDRED[:61]), ())
        self.assertEqual(gather(SINGLE, ("b",), ("a", "b")), ())
        self.assertEqual(gather(BARE, (), ("a",)), ())
        self.assertEqual(gather(BARE_CHAIN, (), ("a",)), ())

    def test_bad_naming(self):
        wrong = any_values() + [
            (), ("a",), ("a", "b", "c"), ("a", "b", "c", "b", "a"), ["a", "b", "c", "b"], ("a", "b", "c", "B"),
            ("a", "b", "c", "d"), ("a", "a", "c", "b"), ("a", "b", "a", "b"), ("a", "b", "c", None), ("a", "b", "c", 0),
            ("a", "b", "c", ("b",)), "abcb", 0]
        for value in wrong:
            for pool in (POOL, ("a", "b"), ("a",), ()):
                with self.subTest(kind=type(value)), self.assertRaises(BadNaming) as context:
                    gather(EXAMPLE, value, pool)
                self.assertIs(context.exception.naming, value)

    def test_bad_naming_ahead_of_too_few_names(self):
        for naming, pool, error in (
                (("a", "b", "b", "a"), ("a", "b"), TooFewNames), (("a", "b", "b", "c"), ("a", "b"), BadNaming),
                (("a", "a", "b", "a"), ("a", "b"), BadNaming), (("a", "b", "b", "a"), ("a",), BadNaming)):
            with self.assertRaises(error):
                gather(EXAMPLE, naming, pool)

    def test_too_few_names(self):
        source = random.Random(57)
        for program in itertools.chain(PROGRAMS, random_programs(58, 20)):
            width = definitions.width(program)
            pool = HUNDRED[:width]
            with self.assertRaises(TooFewNames) as context:
                gather(program, random_valid_naming(source, program, pool), pool)
            self.assertEqual(context.exception.needed, width + 1)


if __name__ == "__main__":
    unittest.main()

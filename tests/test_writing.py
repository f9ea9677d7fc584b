"""Tests of the module writing."""

import itertools
import random
import unittest

from renamesteps.reading import read_program
from renamesteps.writing import write_program
from tests import definitions, texts
from tests.definitions import count
from tests.samples import (
    BARE, BARE_CHAIN, CROWDED, EXAMPLE, FAR, GAPS, HUNDRED, PROGRAMS, SINGLE, random_programs, random_valid_naming,
    small_programs)


def expected_lines(program, naming, scope=0):
    """The lines of a scope and of all scopes inside it, in the words of the document."""
    homes = definitions.homes(program)
    lines = ["let " + naming[number] for number, home in enumerate(homes) if home == scope]
    lines += ["use " + naming[number] for number in program[scope][2]]
    for inner, row in enumerate(program):
        if row[0] == scope:
            lines += ["{"] + expected_lines(program, naming, inner) + ["}"]
    return lines


class WriteProgramTest(unittest.TestCase):
    def check(self, program, naming):
        text = write_program(program, naming)
        self.assertIs(type(text), str)
        self.assertEqual(text, "\n".join(expected_lines(program, naming)))
        self.assertEqual(read_program(text), (program, naming))
        self.assertEqual(texts.read(text), (program, naming))

    def test_programs_of_one_scope(self):
        self.assertEqual(write_program(SINGLE, ("abc",)), "let abc")
        self.assertEqual(write_program(((-1, 1, (0,)),), ("abcdefgh",)), "let abcdefgh\nuse abcdefgh")
        self.assertEqual(write_program(((-1, 3, (0, 2)),), ("c", "a", "b")), "let c\nlet a\nlet b\nuse c\nuse b")

    def test_programs_without_declarations(self):
        self.assertEqual(write_program(BARE, ()), "")
        self.assertEqual(write_program(((-1, 0, ()), (0, 0, ())), ()), "{\n}")
        self.assertEqual(write_program(((-1, 0, ()), (0, 0, ()), (0, 0, ())), ()), "{\n}\n{\n}")
        self.assertEqual(write_program(((-1, 0, ()), (0, 0, ()), (1, 0, ())), ()), "{\n{\n}\n}")
        self.assertEqual(write_program(BARE_CHAIN, ()), "\n".join(["{"] * 39 + ["}"] * 39))

    def test_the_order_of_the_lines(self):
        program = ((-1, 2, (0, 1)), (0, 1, (1, 2)), (1, 0, (0,)), (1, 1, ()), (0, 0, (1,)))
        self.assertEqual(
            write_program(program, ("b", "a", "d", "c")),
            "let b\nlet a\nuse b\nuse a\n{\nlet d\nuse a\nuse d\n{\nuse b\n}\n{\nlet c\n}\n}\n{\nuse a\n}")

    def test_several_scopes_that_end_at_once(self):
        program = ((-1, 1, ()), (0, 0, ()), (1, 0, ()), (2, 0, (0,)), (0, 0, ()), (4, 0, ()))
        self.assertEqual(write_program(program, ("x",)), "let x\n{\n{\n{\nuse x\n}\n}\n}\n{\n{\n}\n}")

    def test_all_programs(self):
        source = random.Random(161)
        for program in itertools.chain(PROGRAMS, small_programs(2), random_programs(162, 40)):
            pool = HUNDRED[:definitions.width(program) + source.randrange(3)]
            self.check(program, random_valid_naming(source, program, pool))

    def test_40_scopes_and_60_declarations(self):
        source = random.Random(163)
        for program in random_programs(164, 30):
            if (len(program), count(program)) == (40, 60):
                self.check(program, random_valid_naming(source, program, HUNDRED[:60]))
        self.check(CROWDED, HUNDRED[:60])
        self.check(FAR, ("a",))
        self.check(GAPS, ("a", "b", "a", "b", "c"))

    def test_each_valid_naming(self):
        for naming in definitions.valid_namings(EXAMPLE, ("a", "b", "zz")):
            self.check(EXAMPLE, naming)


if __name__ == "__main__":
    unittest.main()

"""Tests of the module reading."""

import itertools
import random
import unittest

from renamesteps.errors import BadText
from renamesteps.programs import is_program
from renamesteps.reading import read_program, same_program
from renamesteps.validity import is_valid
from renamesteps.writing import write_program
from tests import definitions, texts
from tests.samples import (
    BARE, BARE_CHAIN, EXAMPLE, HUNDRED, PROGRAMS, SINGLE, any_values, random_programs, random_valid_naming,
    small_programs)

# Lines that are none of the four forms.
WRONG_LINES = (
    "", " ", "\t", "\r", "let", "use", "let ", "use ", " let a", "let a ", "use a ", " use a", "let  a", "use  a",
    "let\ta", "use\ta", "let a\t", "let a\r", "use a\r", "{\r", "}\r", " {", "{ ", " }", "} ", "{}", "{{", "}}", "{ }",
    "let A", "use A", "let aB", "Let a", "LET a", "Use a", "let abcdefghi", "use abcdefghi", "let a1", "let 1",
    "let a b", "use a b", "let a let b", "let a;", "leta", "usea", "let_a", "a", "let let a", "def a", "use a,", "let \u00e4",
    "let \u00df", "use \u03b1", "let\u00a0a", "let a\u2028", "let a\x0b", "let a\x0c", "let a\x85", "let a\x1c",
    "(", "[", "# let a", "let a # b", "\uff5b", "let \ud800", "let -", "let a.b", "\x00", "let a\x00")


class ReadTest(unittest.TestCase):
    def assert_bad(self, text, line, function=read_program):
        with self.subTest(text=text), self.assertRaises(BadText) as context:
            function(text)
        self.assertEqual((type(context.exception.line), context.exception.line), (int, line))
        self.assertEqual(list(vars(context.exception)), ["line"])


class ReadProgramTest(ReadTest):
    def check(self, text, program, naming):
        found = read_program(text)
        self.assertEqual(found, (program, naming), text)
        self.assertEqual([type(found), type(found[0]), type(found[1])], [tuple] * 3)
        self.assertIs(is_program(found[0]), True)
        self.assertIs(is_valid(*found), True)

    def test_the_empty_text(self):
        self.check("", BARE, ())

    def test_programs_without_declarations(self):
        self.check("{\n}", ((-1, 0, ()), (0, 0, ())), ())
        self.check("{\n{\n}\n}\n{\n}", ((-1, 0, ()), (0, 0, ()), (1, 0, ()), (0, 0, ())), ())
        self.check("\n".join(["{"] * 39 + ["}"] * 39), BARE_CHAIN, ())

    def test_programs_of_one_scope(self):
        self.check("let abcdefgh", SINGLE, ("abcdefgh",))
        self.check("let let\nlet use\nuse let", ((-1, 2, (0,)),), ("let", "use"))
        self.check("let b\nuse a\nlet a\nuse b\nuse a", ((-1, 2, (0, 1)),), ("b", "a"))

    def test_declarations_behind_their_uses(self):
        self.check("use f\n{\nuse f\n}\nlet f", ((-1, 1, (0,)), (0, 0, (0,))), ("f",))
        self.check("{\nuse a\n{\nuse a\n}\nlet a\n}\nlet a", ((-1, 1, ()), (0, 1, (1,)), (1, 0, (1,))), ("a", "a"))

    def test_declarations_are_numbered_scope_by_scope(self):
        self.check(
            "let a\n{\nlet b\nlet c\n}\nlet d\n{\nlet e\nuse d\n}\nlet f",
            ((-1, 3, ()), (0, 2, ()), (0, 1, (1,))), ("a", "d", "f", "b", "c", "e"))

    def test_scopes_are_numbered_in_the_sequence_of_their_first_lines(self):
        self.check(
            "{\n{\n}\nlet a\n{\nuse a\n}\n}\n{\nlet b\n}",
            ((-1, 0, ()), (0, 1, ()), (1, 0, ()), (1, 0, (0,)), (0, 1, ())), ("a", "b"))

    def test_a_name_of_an_inner_scope_hides_an_outer_one(self):
        self.check("let a\nuse a\n{\nlet a\nuse a\n}\nuse a", ((-1, 1, (0,)), (0, 1, (1,))), ("a", "a"))
        self.check("let a\n{\nuse a\n{\nlet a\n}\n}", ((-1, 1, ()), (0, 0, (0,)), (1, 1, ())), ("a", "a"))
        self.check(
            "let a\n{\nlet a\n{\nuse a\n}\n}\n{\nuse a\n}",
            ((-1, 1, ()), (0, 1, ()), (1, 0, (1,)), (0, 0, (0,))), ("a", "a"))

    def test_repeated_uses(self):
        self.check("let a\nuse a\nuse a\nuse a", ((-1, 1, (0,)),), ("a",))
        self.check("use b\nuse a\nlet a\nuse b\nuse a\nlet b", ((-1, 2, (0, 1)),), ("a", "b"))

    def test_the_same_name_in_scopes_beside_and_inside_each_other(self):
        self.check("{\nlet a\n}\n{\nlet a\n}\nlet a", ((-1, 1, ()), (0, 1, ()), (0, 1, ())), ("a", "a", "a"))

    def test_what_is_written_is_read(self):
        source = random.Random(165)
        for program in itertools.chain(PROGRAMS, small_programs(2), random_programs(166, 30)):
            naming = random_valid_naming(source, program, HUNDRED[:definitions.width(program) + 1])
            self.check(write_program(program, naming), program, naming)
            self.check(texts.shuffled(source, program, naming), program, naming)

    def test_many_uses(self):
        self.check("let a\n" + "\n".join(["use a"] * 3000), ((-1, 1, (0,)),), ("a",))
        text = "\n".join(["let a"] + ["{\nlet b"] * 39 + ["use a\nuse b"] * 1500 + ["}"] * 39)
        program, naming = read_program(text)
        self.assertEqual((len(program), naming, program[39]), (40, ("a",) + ("b",) * 39, (38, 1, (0, 39))))


class BadTextTest(ReadTest):
    def test_a_line_that_is_none_of_the_four_forms(self):
        for line in WRONG_LINES:
            if line:
                self.assert_bad(line, 0)
            self.assert_bad("\n" + line, 0)
            self.assert_bad(line + "\n", 0)
            self.assert_bad("let a\n" + line, 1)
            self.assert_bad("let a\nuse a\n{\n" + line + "\n}\nuse a", 3)
            self.assert_bad("let a\n" + line + "\n" + line, 1)

    def test_a_line_feed_at_an_end_or_in_the_middle(self):
        self.assert_bad("\n", 0)
        self.assert_bad("let a\n", 1)
        self.assert_bad("{\n}\n", 2)
        self.assert_bad("let a\n\nuse a", 1)
        self.assert_bad("\nlet a", 0)
        self.assert_bad("let a\r\nuse a", 0)
        self.assert_bad("let a\ruse a", 0)

    def test_an_end_in_scope_0(self):
        self.assert_bad("}", 0)
        self.assert_bad("let a\n}", 1)
        self.assert_bad("{\n}\n}", 2)
        self.assert_bad("{\n{\n}\n}\n}\n{", 4)
        self.assert_bad("}\n{", 0)

    def test_a_name_declared_twice_in_one_scope(self):
        self.assert_bad("let a\nlet a", 1)
        self.assert_bad("let a\nlet b\nlet a\nlet b", 2)
        self.assert_bad("let a\n{\nlet a\n}\nlet a", 4)
        self.assert_bad("{\nlet a\n{\nlet a\n}\nlet b\nlet a\n}", 6)

    def test_the_41st_scope(self):
        for beside, line in ((["{", "}"] * 40, 78), (["{"] * 40 + ["}"] * 40, 39), (["{"] * 40, 39)):
            self.assert_bad("\n".join(beside), line)
            self.assert_bad("\n".join(["let a"] + beside), line + 1)
        self.assertEqual(len(read_program("\n".join(["{", "}"] * 39))[0]), 40)
        self.assertEqual(len(read_program("\n".join(["{"] * 39 + ["}"] * 39))[0]), 40)

    def test_the_61st_declaration(self):
        lets = ["let " + name for name in HUNDRED[:61]]
        self.assert_bad("\n".join(lets), 60)
        self.assert_bad("\n".join(["{"] + lets + ["}"]), 61)
        self.assert_bad("\n".join(lets[:30] + ["{"] + lets[30:60] + ["}"] + lets[60:]), 62)
        self.assert_bad("\n".join(lets[:30] + ["{"] + lets[:31] + ["}"]), 61)
        self.assertEqual(read_program("\n".join(lets[:60])), (((-1, 60, ()),), HUNDRED[:60]))
        self.assertEqual(read_program("\n".join(lets[:30] + ["{"] + lets[:30] + ["}"]))[1], HUNDRED[:30] * 2)

    def test_a_scope_that_is_not_ended(self):
        self.assert_bad("{", 1)
        self.assert_bad("let a\n{\nuse a", 3)
        self.assert_bad("{\n{\n}", 3)
        self.assert_bad("{\n}\n{", 3)
        self.assert_bad("{\nlet a" + "\n{" * 5, 7)

    def test_a_use_whose_name_is_not_found(self):
        self.assert_bad("use a", 0)
        self.assert_bad("let a\nuse a\nuse b\nuse c", 2)
        # Declared in a scope beside it, and in one inside it.
        self.assert_bad("{\nlet a\n}\n{\nuse a\n}", 4)
        self.assert_bad("{\nlet a\n{\nuse a\n}\n}\nuse a", 6)
        self.assert_bad("{\n{\nlet a\n}\nuse a\n}\n{\nuse b\n}", 4)
        # The first line counts, not the first scope.
        self.assert_bad("{\n{\nuse x\n}\nuse y\n}\nuse z", 2)
        self.assert_bad("{\n{\n}\nuse y\n}\nuse z", 3)

    def test_a_use_that_is_not_found_comes_after_all_other_cases(self):
        self.assert_bad("use x\nwrong", 1)
        self.assert_bad("use x\n", 1)
        self.assert_bad("use x\n}", 1)
        self.assert_bad("use x\nlet a\nlet a", 2)
        self.assert_bad("use x\n{", 2)
        self.assert_bad("\n".join(["use x"] + ["{", "}"] * 40), 79)
        self.assert_bad("\n".join(["use x"] + ["let " + name for name in HUNDRED[:61]]), 61)

    def test_a_scope_that_is_not_ended_comes_after_wrong_lines(self):
        self.assert_bad("{\nwrong\nlet a", 1)
        self.assert_bad("{\nlet a\nlet a", 2)
        self.assert_bad("{\nlet a\n", 2)

    def test_the_first_of_several_wrong_lines(self):
        wrong = {"form": ["wrong"], "end": ["}"], "twice": ["let a", "let a"]}
        for first, second in itertools.permutations(wrong, 2):
            lines = wrong[first] + wrong[second]
            self.assert_bad("\n".join(lines), len(wrong[first]) - 1)
        scopes = ["{", "}"] * 40
        lets = ["let " + name for name in HUNDRED[:61]]
        for lines in ([scopes, 78], [lets, 60]):
            self.assert_bad("\n".join(lines[0] + ["wrong"]), lines[1])
            self.assert_bad("\n".join(["wrong"] + lines[0]), 0)
            self.assert_bad("\n".join(["let zz", "let zz"] + lines[0]), 1)
            self.assert_bad("\n".join(["}"] + lines[0]), 0)
        self.assert_bad("\n".join(scopes + lets), 78)
        self.assert_bad("\n".join(lets + scopes), 60)

    def test_values_that_are_no_strings(self):
        for value in any_values() + [0, -1, 7, (), ("let a",), ["let a"], b"let a", {"let a": 1}]:
            if not isinstance(value, str):
                with self.subTest(kind=type(value)), self.assertRaises(BadText) as context:
                    read_program(value)
                self.assertEqual((type(context.exception.line), context.exception.line), (int, 0))

    def test_strings_of_any_kind(self):
        for value in any_values():
            if isinstance(value, str) and value:
                self.assert_bad(value, 0)

    def test_texts_beyond_the_limit(self):
        self.assert_bad("let a\n" + "use a\n" * 5000 + "use b", 5001)
        self.assertEqual(read_program("let a\n" + "\n".join(["use a"] * 5000)), (((-1, 1, (0,)),), ("a",)))
        self.assert_bad("a" * 30000, 0)

    def test_another_way_to_read(self):
        source = random.Random(167)
        shown = set()
        programs = itertools.chain(random_programs(168, 200), [EXAMPLE] * 100, random_programs(172, 100, 5, 6))
        for program in programs:
            naming = random_valid_naming(source, program, HUNDRED[:definitions.width(program) + 1])
            lines = texts.shuffled(source, program, naming, 1).split("\n")
            for _ in range(source.randrange(3)):
                place = source.randrange(len(lines) + 1)
                change = source.randrange(5)
                if change == 0:
                    lines.insert(place, source.choice(("{", "}", "use aa", "let aa", "let zz", "use zz")))
                elif change == 1:
                    del lines[place:place + 1]
                elif change == 2:
                    lines.insert(place, source.choice(WRONG_LINES))
                elif change == 3:
                    source.shuffle(lines)
                else:
                    lines[place:place] = source.choice((["{", "}"], ["{"], ["let " + name for name in HUNDRED[60:90]]))
            shown.add(self.check_like_the_other("\n".join(lines)))
        self.assertEqual(shown, {True, False})

    def check_like_the_other(self, text):
        expected = texts.read(text)
        if isinstance(expected, int):
            self.assert_bad(text, expected)
            return False
        self.assertEqual(read_program(text), expected)
        return True

    def test_all_short_texts(self):
        for many in range(6):
            for lines in itertools.product(("let a", "use a", "{", "}", "let b"), repeat=many):
                self.check_like_the_other("\n".join(lines))


class SameProgramTest(ReadTest):
    def check(self, one, other, expected):
        self.assertIs(same_program(one, other), expected, (one, other))
        self.assertIs(same_program(other, one), expected, (one, other))

    def test_other_names(self):
        self.check("let a\nuse a", "let b\nuse b", True)
        self.check("let a\n{\nlet b\nuse a\n}", "let b\n{\nlet a\nuse b\n}", True)
        self.check("let a\n{\nlet b\n}", "let a\n{\nlet a\n}", True)
        # With these names, the use finds another declaration.
        self.check("let a\n{\nlet b\nuse a\n}", "let a\n{\nlet a\nuse a\n}", False)

    def test_repeated_uses(self):
        self.check("let a\nuse a", "use a\nlet a\nuse a\nuse a", True)
        self.check("let a\nuse a", "let a", False)
        self.check("let a\n{\nuse a\n}", "let a\n{\nuse a\n}\nuse a", False)

    def test_the_sequence_of_lines(self):
        self.check("let a\nlet b\nuse a\n{\nuse b\n}", "{\nuse b\n}\nlet a\nuse a\nlet b", True)
        self.check("let a\nlet b\nuse a\nuse b", "use b\nuse a\nlet a\nlet b", True)

    def test_let_lines_exchanged(self):
        self.check("let a\nlet b\nuse a", "let b\nlet a\nuse a", False)
        self.check("let a\nlet b\nuse a", "let b\nlet a\nuse b", True)
        self.check("let a\nlet b\nuse a\nuse b", "let b\nlet a\nuse a\nuse b", True)

    def test_inner_scopes_exchanged(self):
        self.check("{\nlet a\n}\n{\n}", "{\n}\n{\nlet a\n}", False)
        self.check("{\nlet a\n}\n{\nlet b\n}", "{\nlet b\n}\n{\nlet a\n}", True)
        self.check("let x\n{\nuse x\n}\n{\n}", "let x\n{\n}\n{\nuse x\n}", False)
        self.check("{\n{\n}\n}", "{\n}\n{\n}", False)

    def test_the_empty_text(self):
        self.check("", "", True)
        self.check("", "{\n}", False)
        self.check("", "let a", False)

    def test_other_texts_of_the_same_program(self):
        source = random.Random(169)
        for program in itertools.chain(PROGRAMS, random_programs(170, 30), small_programs(2)):
            pool = HUNDRED[:definitions.width(program) + 3]
            one, other = (
                texts.shuffled(source, program, random_valid_naming(source, program, pool)) for _ in range(2))
            self.check(one, other, True)

    def test_texts_of_different_programs(self):
        source = random.Random(171)
        programs = list(small_programs(2))
        for _ in range(1500):
            one, other = source.choice(programs), source.choice(programs)
            found = [texts.shuffled(source, program, random_valid_naming(source, program, ("a", "b", "c")))
                     for program in (one, other)]
            self.check(*found, one == other)

    def test_errors_of_one_before_other(self):
        for one, line in (("let a\n", 1), ("}", 0), ("{\n}\nuse a", 2), (None, 0), (7, 0)):
            for other in ("", "let a", "\n\n", "let a\nlet b\nlet c\nwrong", None, 8):
                self.assert_bad(one, line, lambda value: same_program(value, other))

    def test_errors_of_other(self):
        for other, line in (("let a\n", 1), ("}", 0), ("{\n}\nuse a", 2), (None, 0), (7, 0)):
            for one in ("", "let a", "{\n}"):
                self.assert_bad(other, line, lambda value: same_program(one, value))

    def test_values_of_any_kind(self):
        for value in any_values() + [0, -1, (), (0,)]:
            if isinstance(value, str) and not value:
                continue
            for function in (
                    lambda text: same_program(text, "let a"), lambda text: same_program("let a", text),
                    lambda text: same_program(text, text)):
                with self.subTest(kind=type(value)), self.assertRaises(BadText) as context:
                    function(value)
                self.assertEqual(context.exception.line, 0)


if __name__ == "__main__":
    unittest.main()

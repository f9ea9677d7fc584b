"""Tests of the module desk."""

import itertools
import random
import unittest

from renamesteps.desk import Desk
from renamesteps.errors import (
    BadLine, BadName, BadNaming, BadPool, BadText, Clash, MissingUse, NoDeclaration, NoScope, NothingToUndo, OutOfScope,
    RenameError, TooFewNames, TooLarge)
from renamesteps.parts import frozen_declarations
from renamesteps.regions import needed_in, region_of, width_of
from renamesteps.renames import free_names
from renamesteps.workspace import Workspace
from renamesteps.writing import write_program
from tests import definitions
from tests.definitions import count
from tests.following import follow_by_validity
from tests.raising import RaisingTest
from tests.samples import (
    BARE, EXAMPLE, HUNDRED, LARGEST, PROGRAMS, any_values, random_programs, random_valid_naming)

NAMING = ("a", "b", "b", "a")
TEXT = "let a\nlet b\nuse b\n{\nlet b\nuse a\nuse b\n}\n{\nlet a\nuse a\n}"

# Forms that ask and change nothing, without the words behind the first one.
QUESTIONS = ("naming", "pool", "text", "frozen", "width", "changes")

# Lines of no form, for every desk.
WRONG_LINES = (
    "", " ", "  ", "\n", "rename", "rename 0", "rename a", "rename a 0", "rename 0 a b", "rename 0 a 0", "rename 0 0",
    "rename a a", "rename  0 a", "rename 0  a", " rename 0 a", "rename 0 a ", "rename 0 a\n", "rename 0\ta",
    "rename\t0 a",
    "rename 00 a", "rename 01 a", "rename 007 a", "rename 000 a", "rename 1000 a", "rename 0000 a", "rename 12345 a",
    "rename -1 a", "rename +1 a", "rename -0 a", "rename 1_0 a", "rename 1.0 a", "rename 0x1 a", "rename 1e0 a",
    "rename \u0661 a", "rename \u00b2 a", "rename \uff11 a", "rename \u0967 a", "rename \u2460 a", "rename 1\u0660 a",
    "rename 0 A", "rename 0 aB", "rename 0 abcdefghi", "rename 0 a1", "rename 0 \u00e4", "rename 0 a,", "rename 0 -",
    "rename True a", "rename None a", "Rename 0 a", "RENAME 0 a", "renamed 0 a", "rename_one 0 a", "rename N NAME",
    "give", "give 0", "give a 0", "give 0 a a", "give 00 a", "give 0 A", "give 1000 a", "give N NAME",
    "use", "use 0", "use 0 a", "use a 0", "use 0 0 0", "use 00 0", "use 0 00", "use 0 01", "use 0 -1", "use 1000 0",
    "use 0 1000", "use N N", "unuse", "unuse 0", "unuse 0 a", "unuse a 0", "unuse 0 0 0", "unuse 00 0", "unuse 0 1000",
    "undo 0", "undo a", "undo ", " undo", "undo  ", "Undo", "UNDO", "undo\n", "undo\r", "undone", "redo",
    "widen", "widen 0", "widen A", "widen a b", "widen a b c", "widen  a", "widen a ", "widen abcdefghi", "widen NAME",
    "goto ", "goto  ", "goto 0", "goto a 0", "goto a  b", "goto a b ", " goto a", "goto A", "goto a B",
    "goto abcdefghi",
    "goto a,b", "goto a\nb", "goto NAME ...", "goto NAME", "goto ...", "goto -", "go to a", "go_to a", "Goto a",
    "naming a", "naming 0", "naming ", " naming", "Naming", "namings", "pool 0", "pool a", "pool ", "text 0", "text a",
    "text ", "text\n", "region", "region a", "region 0 0", "region 00", "region 1000", "region -1", "region 0 ",
    "region  0", "region N", "needed", "needed a", "needed 0 0", "needed 01", "needed 1000", "needed +0", "needed 0 ",
    "free", "free a", "free 0 a", "free 0 0", "free 00", "free 1000", "free 0 ", "frozen 0", "frozen a", "frozen ",
    "width 0", "width a", "width ", "width\n", "changes 0", "changes a", "changes ", "change", "count", "program",
    "copy",
    "help", "a", "0", "N", "NAME", "-", "/", "done", "rename 0 a / undo", "rename 0 a;undo", "\u00a0", "undo\u00a0",
    "undo\u3000", "undo\x00", "rename\u00a00 a")


class DeskTest(RaisingTest):
    def assert_error(self, error, value, function, *arguments):
        """The call raises this error with this value, where the desk makes numbers and tuples of names itself."""
        with self.subTest(arguments=repr(arguments)[:80]):
            found = self.raised_value(error, function, *arguments)
            self.assertIs(type(found), type(value))
            if isinstance(value, (int, str, tuple)):
                self.assertEqual(repr(found), repr(value))
            else:
                self.assertIs(found, value)

    def answers(self, desk):
        """The answers to all questions without numbers."""
        return [desk.say(question) for question in QUESTIONS]

    def assert_refused(self, error, value, desk, line):
        before = self.answers(desk)
        self.assert_error(error, value, desk.say, line)
        self.assertEqual(self.answers(desk), before)

    def talk(self, desk, *pairs):
        for line, answer in pairs:
            found = desk.say(line)
            self.assertIs(type(found), str)
            self.assertEqual(found, answer, line)


class ConstructorTest(DeskTest):
    def test_the_defaults(self):
        self.talk(Desk(), ("text", "-"), ("pool", "a b c"), ("naming", "-"), ("changes", "0"))
        self.talk(Desk("let b"), ("text", "let b"), ("pool", "a b c"), ("naming", "b"))
        self.talk(Desk(names="d"), ("text", "-"), ("pool", "d"))
        self.talk(Desk(names="b a", text="let a"), ("text", "let a"), ("pool", "b a"))

    def test_names(self):
        self.talk(Desk("", ""), ("pool", "-"))
        self.talk(Desk("", "a"), ("pool", "a"))
        self.talk(Desk("", "c b a abcdefgh"), ("pool", "c b a abcdefgh"))
        self.talk(Desk("", " ".join(HUNDRED[:80])), ("pool", " ".join(HUNDRED[:80])))

    def test_bad_pool(self):
        for names in (
                " ", "  ", " a", "a ", "a  b", "a b ", " a b", "a a", "a b a", "A", "a B", "a1", "a,b", "a\tb", "a\nb",
                "abcdefghi", "a abcdefghi", "\u00e4", "a\u00a0b", "-", "a -", "a\n", " ".join(HUNDRED[:81])):
            self.assert_error(BadPool, names, Desk, "", names)
            self.assert_error(BadPool, names, Desk, "let a", names)
        for value in any_values() + [0, -1, (), ("a", "b"), ["a", "b"], ("a",), b"a b", {"a": 1}]:
            if not isinstance(value, str) or value not in ("", "a b"):
                self.assert_error(BadPool, value, Desk, "", value)
                self.assert_error(BadPool, value, Desk, "let d", value)

    def test_bad_text_ahead_of_bad_pool(self):
        for text, line in (("let a\n", 1), ("}", 0), ("{", 1), ("use a", 0), ("let a\nlet a", 1), ("let a\nuse b", 1)):
            for names in ("a b c", "a a", " ", None, 0, ()):
                self.assert_error(BadText, line, Desk, text, names)
        for value in any_values() + [0, -1, ()]:
            if not isinstance(value, str) or value:
                for names in ("a b c", "a a", None):
                    self.assert_error(BadText, 0, Desk, value, names)

    def test_values_of_any_kind_for_both(self):
        for value in any_values():
            if not isinstance(value, str) or value:
                self.assert_error(BadText, 0, Desk, value, value)

    def test_bad_naming(self):
        self.assert_error(BadNaming, ("d",), Desk, "let d")
        self.assert_error(BadNaming, ("a", "d"), Desk, "let a\nlet d")
        self.assert_error(BadNaming, ("a",), Desk, "let a", "")
        self.assert_error(BadNaming, NAMING, Desk, TEXT, "a c")
        self.assert_error(BadNaming, NAMING, Desk, TEXT, "b ab")

    def test_large_texts(self):
        source = random.Random(201)
        for program in itertools.chain(PROGRAMS, random_programs(202, 10)):
            pool = HUNDRED[:definitions.width(program) + 1]
            naming = random_valid_naming(source, program, pool)
            text = write_program(program, naming)
            desk = Desk(text, " ".join(pool))
            self.talk(
                desk, ("text", " / ".join(text.split("\n")) or "-"), ("naming", " ".join(naming) or "-"),
                ("pool", " ".join(pool)), ("width", str(definitions.width(program))), ("changes", "0"))


class AnswersTest(DeskTest):
    def test_each_form(self):
        self.talk(
            Desk(TEXT), ("naming", "a b b a"), ("pool", "a b c"), ("width", "2"), ("changes", "0"), ("frozen", "-"),
            ("text", "let a / let b / use b / { / let b / use a / use b / } / { / let a / use a / }"),
            ("region 0", "0 1"), ("region 1", "0"), ("region 3", "2"), ("needed 0", "0 1"), ("needed 1", "0 2"),
            ("needed 2", "3"), ("free 0", "c"), ("free 3", "b c"), ("changes", "0"),
            ("rename 3 c", "a b b c"), ("naming", "a b b c"), ("changes", "1"), ("widen d", "a b c d"),
            ("pool", "a b c d"), ("changes", "2"), ("free 3", "a b d"), ("give 3 c", "-"), ("changes", "3"),
            ("give 3 d", "3:d"), ("naming", "a b b d"), ("use 1 2", "-"), ("needed 2", "1 3"), ("use 1 1", "1:c"),
            ("naming", "a c b d"), ("width", "3"), ("unuse 1 1", "done"), ("width", "2"), ("goto a c b d", "-"),
            ("changes", "8"), ("undo", "done"), ("changes", "7"), ("undo", "done"), ("width", "3"))

    def test_plans(self):
        for goal in definitions.valid_namings(EXAMPLE, ("a", "b", "c")):
            desk = Desk(TEXT)
            answer = desk.say("goto " + " ".join(goal))
            plan = Workspace(EXAMPLE, NAMING, ("a", "b", "c")).go_to(goal)
            self.assertEqual(answer, " ".join(f"{number}:{name}" for number, name in plan) or "-")
            self.talk(desk, ("naming", " ".join(goal)), ("changes", "1"))
        for number, name in itertools.product(range(4), "abc"):
            answer = Desk(TEXT).say(f"give {number} {name}")
            plan = Workspace(EXAMPLE, NAMING, ("a", "b", "c")).give_name(number, name)
            self.assertEqual(answer, " ".join(f"{at}:{given}" for at, given in plan) or "-")

    def test_everything_empty(self):
        desk = Desk("", "")
        self.talk(
            desk, ("naming", "-"), ("pool", "-"), ("text", "-"), ("needed 0", "-"), ("frozen", "-"), ("width", "0"),
            ("changes", "0"), ("goto", "-"), ("changes", "1"), ("undo", "done"), ("changes", "0"), ("widen a", "a"),
            ("pool", "a"))
        # A declaration without a free name, and a scope without needed declarations.
        self.talk(Desk("let a\n{\n}", "a"), ("free 0", "-"), ("needed 1", "-"), ("frozen", "0"), ("region 0", "0"))

    def test_goto_without_names(self):
        self.talk(Desk(), ("goto", "-"), ("changes", "1"))
        self.assert_refused(BadNaming, (), Desk(TEXT), "goto")

    def test_frozen(self):
        self.talk(Desk(TEXT, "b a"), ("frozen", "0 1 2"), ("widen c", "b a c"), ("frozen", "-"))

    def test_names_with_the_words_of_forms(self):
        desk = Desk("let undo\nlet goto", "undo goto use let n")
        self.talk(
            desk, ("naming", "undo goto"), ("rename 0 use", "use goto"), ("goto let use", desk_plan(desk, "let use")),
            ("naming", "let use"), ("widen widen", "undo goto use let n widen"))

    def test_numbers_of_one_to_three_digits(self):
        lets = "\n".join("let " + name for name in HUNDRED[:60])
        desk = Desk(lets, " ".join(HUNDRED[:80]))
        for number in (0, 9, 10, 59):
            self.assertEqual(desk.say(f"region {number}"), "0")
        for number in (60, 99, 100, 999):
            for form in ("region {}", "free {}", "rename {} aa", "give {} aa", "use {} 0", "unuse {} 0"):
                self.assert_refused(NoDeclaration, number, desk, form.format(number))
            self.assert_refused(NoScope, number, desk, f"needed {number}")
            self.assert_refused(NoScope, number, desk, f"use 0 {number}")
            self.assert_refused(NoScope, number, desk, f"unuse 0 {number}")

    def test_large_programs(self):
        source = random.Random(203)
        for program in itertools.chain([LARGEST], random_programs(204, 8)):
            pool = HUNDRED[:definitions.width(program) + 1]
            naming, goal = (random_valid_naming(source, program, pool) for _ in range(2))
            desk = Desk(write_program(program, naming), " ".join(pool))
            for number in range(count(program)):
                self.talk(
                    desk, (f"region {number}", " ".join(map(str, region_of(program, number)))),
                    (f"free {number}", " ".join(free_names(program, naming, number, pool)) or "-"))
            for scope in range(len(program)):
                self.talk(desk, (f"needed {scope}", " ".join(map(str, needed_in(program, scope))) or "-"))
            self.talk(desk, ("width", str(width_of(program))), ("changes", "0"))
            line = " ".join(("goto",) + goal)
            plan = Workspace(program, naming, pool).go_to(goal)
            self.talk(desk, (line, " ".join(f"{at}:{name}" for at, name in plan) or "-"), ("changes", "1"))
            self.assertEqual(follow_by_validity(self, program, naming, plan, pool), goal)

    def test_frozen_declarations_of_large_programs(self):
        source = random.Random(205)
        for program in random_programs(206, 10):
            pool = HUNDRED[:definitions.width(program)]
            desk = Desk(write_program(program, random_valid_naming(source, program, pool)), " ".join(pool))
            self.talk(desk, ("frozen", " ".join(map(str, frozen_declarations(program, pool))) or "-"))

    def test_desks_change_independently(self):
        one, other = Desk(TEXT), Desk(TEXT)
        one.say("rename 3 c")
        self.talk(other, ("naming", "a b b a"), ("changes", "0"))


def desk_plan(desk, names):
    """What a desk with the naming after `rename 0 use` would answer to a goto, from a workspace of its own."""
    pool = tuple(desk.say("pool").split(" "))
    plan = Workspace(((-1, 2, ()),), ("use", "goto"), pool).go_to(tuple(names.split(" ")))
    return " ".join(f"{number}:{name}" for number, name in plan)


class RaisedTest(DeskTest):
    def test_what_the_methods_raise(self):
        for names, cases in (
                ("a b c", (
                    ("rename 4 a", NoDeclaration, 4), ("rename 4 d", NoDeclaration, 4), ("rename 0 d", BadName, "d"),
                    ("rename 0 b", Clash, 1), ("rename 2 a", Clash, 0), ("give 4 d", NoDeclaration, 4),
                    ("give 0 d", BadName, "d"), ("use 4 3", NoDeclaration, 4), ("use 0 3", NoScope, 3),
                    ("use 2 0", OutOfScope, 0), ("use 3 1", OutOfScope, 1), ("unuse 4 3", NoDeclaration, 4),
                    ("unuse 0 3", NoScope, 3), ("unuse 0 0", MissingUse, 0), ("unuse 3 1", MissingUse, 1),
                    ("undo", NothingToUndo, 0), ("widen a", BadName, "a"), ("goto", BadNaming, ()),
                    ("goto a", BadNaming, ("a",)), ("goto a b b d", BadNaming, ("a", "b", "b", "d")),
                    ("goto a a b b", BadNaming, ("a", "a", "b", "b")), ("goto a b b a a", BadNaming, NAMING + ("a",)),
                    ("region 4", NoDeclaration, 4), ("needed 3", NoScope, 3), ("free 4", NoDeclaration, 4))),
                ("a b", (
                    ("give 3 b", TooFewNames, 3), ("give 0 b", TooFewNames, 3), ("use 1 1", TooFewNames, 3),
                    ("goto a b b b", TooFewNames, 3), ("goto b a a b", TooFewNames, 3),
                    ("goto a b b c", BadNaming, ("a", "b", "b", "c"))))):
            desk = Desk(TEXT, names)
            for line, error, value in cases:
                self.assert_refused(error, value, desk, line)
        self.assert_refused(TooLarge, 80, Desk("", " ".join(HUNDRED[:80])), "widen zz")
        self.assert_refused(BadName, "aa", Desk("", " ".join(HUNDRED[:80])), "widen aa")

    def test_the_empty_desk(self):
        desk = Desk()
        for line in ("rename 0 a", "give 0 a", "use 0 0", "unuse 0 0", "region 0", "free 0"):
            self.assert_refused(NoDeclaration, 0, desk, line)
        self.assert_refused(NoScope, 1, desk, "needed 1")

    def test_changes_are_kept_when_a_line_raises(self):
        desk = Desk(TEXT)
        self.talk(desk, ("rename 3 c", "a b b c"), ("widen d", "a b c d"))
        for line in ("rename 0 b", "give 0 e", "use 2 0", "goto a", "widen a", "unuse 0 0", "nonsense"):
            self.assertRaises(RenameError, desk.say, line)
            self.talk(desk, ("naming", "a b b c"), ("pool", "a b c d"), ("changes", "2"))
        self.talk(desk, ("undo", "done"), ("undo", "done"), ("naming", "a b b a"), ("pool", "a b c"))


class BadLineTest(DeskTest):
    def test_lines_of_no_form(self):
        for line in WRONG_LINES:
            self.assert_refused(BadLine, line, Desk(TEXT), line)
            # Ahead of what a method would raise.
            self.assert_refused(BadLine, line, Desk("", ""), line)

    def test_the_same_words_as_right_lines(self):
        right = ("rename 3 c", "give 3 c", "use 1 2", "unuse 3 2", "goto a b b c", "widen d", "naming", "pool", "text",
                 "region 0", "needed 0", "free 0", "frozen", "width", "changes")
        for line in right:
            self.assertIs(type(Desk(TEXT).say(line)), str)
            for wrong in (" " + line, line + " ", line.replace(" ", "  ", 1) + " " * (" " not in line), line + "\n",
                          line.upper(), line + " 0", line + " A", "\t" + line, line.replace(" ", "\t") + "\t"):
                self.assert_refused(BadLine, wrong, Desk(TEXT), wrong)

    def test_every_single_character_as_a_number(self):
        desk = Desk(TEXT)
        for character in map(chr, range(0x3000)):
            if character in "0123":
                self.assertIs(type(desk.say(f"region {character}")), str)
            elif character in "456789":
                self.assertRaises(NoDeclaration, desk.say, f"region {character}")
            else:
                self.assertRaises(BadLine, desk.say, f"region {character}")
                self.assertRaises(BadLine, desk.say, f"region 1{character}")

    def test_every_single_character_as_a_name(self):
        desk = Desk(TEXT)
        for character in map(chr, range(0x3000)):
            if "d" <= character <= "z":
                self.assertEqual(Desk(TEXT).say(f"widen {character}"), f"a b c {character}")
            else:
                self.assertRaises(BadName if character in "abc" else BadLine, desk.say, f"widen {character}")

    def test_values_of_any_kind(self):
        desk = Desk(TEXT)
        for value in any_values() + [0, 1, -1, (), ("undo",), ["undo"], b"undo", {"undo": 1}, ("rename", 0, "a")]:
            self.assert_refused(BadLine, value, desk, value)

    def test_nothing_changes(self):
        desk = Desk(TEXT)
        desk.say("rename 3 c")
        for line in WRONG_LINES:
            self.assertRaises(BadLine, desk.say, line)
        self.talk(desk, ("naming", "a b b c"), ("changes", "1"), ("undo", "done"), ("naming", "a b b a"))


class TalksTest(DeskTest):
    def test_a_desk_answers_like_a_workspace(self):
        source = random.Random(207)
        for program in itertools.chain([EXAMPLE, BARE], random_programs(208, 25, scopes=6, declarations=7)):
            pool = HUNDRED[:definitions.width(program) + 1]
            naming = random_valid_naming(source, program, pool)
            space = Workspace(program, naming, pool)
            desk = Desk(write_program(program, naming), " ".join(pool))
            for _ in range(40):
                self.check_one_line(source, space, desk)

    def check_one_line(self, source, space, desk):
        """Tells both the same, and compares what they answer or raise."""
        number, scope = source.randrange(7), source.randrange(6)
        name = source.choice(HUNDRED[:len(space.current_pool()) + 1])
        goal = random_valid_naming(source, space.current_program(), space.current_pool())
        line, call = source.choice((
            (f"rename {number} {name}", lambda: " ".join(space.rename_one(number, name))),
            (f"give {number} {name}", lambda: self.told(space.give_name(number, name))),
            (f"use {number} {scope}", lambda: self.told(space.use_in(number, scope))),
            (" ".join(("goto",) + goal), lambda: self.told(space.go_to(goal))),
            (f"unuse {number} {scope}", lambda: space.unuse_in(number, scope) or "done"),
            ("undo", lambda: space.undo() or "done"),
            (f"widen {name}", lambda: " ".join(space.widen_pool(name)))))
        try:
            expected = call()
        except RenameError as error:
            value = list(vars(error).values())[0]
            self.assert_refused(type(error), value, desk, line)
            return
        self.talk(
            desk, (line, expected), ("changes", str(space.change_count())),
            ("naming", " ".join(space.current_naming()) or "-"), ("pool", " ".join(space.current_pool()) or "-"),
            ("text", write_program(space.current_program(), space.current_naming()).replace("\n", " / ") or "-"))

    def told(self, plan):
        return " ".join(f"{number}:{name}" for number, name in plan) or "-"


if __name__ == "__main__":
    unittest.main()

"""The examples of the document, run as the document writes them, and those of README.md."""

import doctest
import pathlib
import re
import unittest

from renamesteps import errors

DOCUMENT = pathlib.Path(__file__).resolve().parents[2] / "shared" / "DOC.md"
README = pathlib.Path(__file__).resolve().parents[1] / "README.md"
LAST_EXAMPLE = 53

EXAMPLES = {
    "e01": '''
    >>> from renamesteps.programs import is_program
    >>> program = ((-1, 2, (1,)), (0, 1, (0, 2)), (0, 1, (3,)))
    >>> [is_program(program), is_program(((-1, 1, ()), (0, 0, (1,)))), is_program(()), is_program(((-1, 0, ()), (0, 0, ()), (0, 0, ()), (1, 0, ())))]
    [True, False, False, False]
''',
    "e02": '''
    >>> from renamesteps.programs import declarations_of, home_of
    >>> program = ((-1, 2, (1,)), (0, 1, (0, 2)), (0, 1, (3,)))
    >>> [home_of(program, 3), declarations_of(program, 0)]
    [2, (0, 1)]
''',
    "e03": '''
    >>> from renamesteps.programs import home_of
    >>> program = ((-1, 2, (1,)), (0, 1, (0, 2)), (0, 1, (3,)))
    >>> home_of(program, 4)
    raises NoDeclaration(4)
''',
    "e04": '''
    >>> from renamesteps.programs import enclosing_scopes, height_of, inner_scopes
    >>> program = ((-1, 1, ()), (0, 0, ()), (1, 1, (0, 1)))
    >>> [enclosing_scopes(program, 2), inner_scopes(program, 1), height_of(program)]
    [(2, 1, 0), (1, 2), 3]
''',
    "e05": '''
    >>> from renamesteps.names import is_name, is_naming, is_pool
    >>> program = ((-1, 2, (1,)), (0, 1, (0, 2)), (0, 1, (3,)))
    >>> [is_name("abc"), is_name("a1"), is_pool(("b", "a")), is_pool(("a", "a")), is_naming(program, ("a", "a", "a", "a")), is_naming(program, ("a",))]
    [True, False, True, False, True, False]
''',
    "e06": '''
    >>> from renamesteps.names import look_up
    >>> program = ((-1, 2, (1,)), (0, 1, (0, 2)), (0, 1, (3,)))
    >>> naming = ("a", "b", "b", "a")
    >>> [look_up(program, naming, 1, "b"), look_up(program, naming, 1, "a"), look_up(program, naming, 2, "b"), look_up(program, naming, 2, "c")]
    [2, 0, 1, None]
''',
    "e07": '''
    >>> from renamesteps.validity import find_problems
    >>> program = ((-1, 2, (1,)), (0, 1, (0, 2)), (0, 1, (3,)))
    >>> find_problems(program, ("a", "a", "a", "a"))
    (('duplicate', 0, 0, 1), ('captured', 0, 1, 0), ('captured', 1, 0, 2))
''',
    "e08": '''
    >>> from renamesteps.validity import is_valid
    >>> program = ((-1, 2, (1,)), (0, 1, (0, 2)), (0, 1, (3,)))
    >>> [is_valid(program, ("a", "b", "b", "a")), is_valid(program, ("a", "b", "a", "a"))]
    [True, False]
''',
    "e09": '''
    >>> from renamesteps.regions import needed_in, region_of
    >>> program = ((-1, 2, (1,)), (0, 1, (0, 2)), (0, 1, (3,)))
    >>> [region_of(program, 0), region_of(program, 1), needed_in(program, 1), needed_in(program, 2)]
    [(0, 1), (0,), (0, 2), (3,)]
''',
    "e10": '''
    >>> from renamesteps.regions import all_conflicts, conflicts_of, in_conflict
    >>> program = ((-1, 2, (1,)), (0, 1, (0, 2)), (0, 1, (3,)))
    >>> [in_conflict(program, 1, 2), conflicts_of(program, 0), all_conflicts(program)]
    [False, (1, 2), ((0, 1), (0, 2))]
''',
    "e11": '''
    >>> from renamesteps.regions import widest_scope, width_of
    >>> program = ((-1, 2, (1,)), (0, 1, (0, 2)), (0, 1, (3,)))
    >>> [width_of(program), widest_scope(program)]
    [2, 0]
''',
    "e12": '''
    >>> from renamesteps.fewest import smallest_naming
    >>> program = ((-1, 2, (1,)), (0, 1, (0, 2)), (0, 1, (3,)))
    >>> smallest_naming(program, ("x", "y", "z"))
    ('x', 'y', 'y', 'x')
''',
    "e13": '''
    >>> from renamesteps.fewest import smallest_naming
    >>> program = ((-1, 2, (1,)), (0, 1, (0, 2)), (0, 1, (3,)))
    >>> smallest_naming(program, ("x",))
    raises TooFewNames(2)
''',
    "e14": '''
    >>> from renamesteps.fewest import shows_fewest
    >>> program = ((-1, 2, (1,)), (0, 1, (0, 2)), (0, 1, (3,)))
    >>> [shows_fewest(program, ("x", "y", "y", "x"), 1), shows_fewest(program, ("x", "y", "y", "x"), 2)]
    [True, False]
''',
    "e15": '''
    >>> from renamesteps.renames import blockers, free_names
    >>> program = ((-1, 2, (1,)), (0, 1, (0, 2)), (0, 1, (3,)))
    >>> naming = ("a", "b", "b", "a")
    >>> [blockers(program, naming, 0, "b"), free_names(program, naming, 0, ("a", "b", "c")), free_names(program, naming, 3, ("a", "b", "c"))]
    [(1, 2), ('c',), ('b', 'c')]
''',
    "e16": '''
    >>> from renamesteps.renames import rename
    >>> program = ((-1, 2, (1,)), (0, 1, (0, 2)), (0, 1, (3,)))
    >>> naming = ("a", "b", "b", "a")
    >>> rename(program, naming, 3, "c")
    ('a', 'b', 'b', 'c')
''',
    "e17": '''
    >>> from renamesteps.renames import rename
    >>> program = ((-1, 2, (1,)), (0, 1, (0, 2)), (0, 1, (3,)))
    >>> naming = ("a", "b", "b", "a")
    >>> rename(program, naming, 0, "b")
    raises Clash(1)
''',
    "e18": '''
    >>> from renamesteps.renames import all_renames
    >>> program = ((-1, 2, (1,)), (0, 1, (0, 2)), (0, 1, (3,)))
    >>> naming = ("a", "b", "b", "a")
    >>> all_renames(program, naming, ("a", "b"))
    ((3, 'b'),)
''',
    "e19": '''
    >>> from renamesteps.groups import groups_of, shows_groups
    >>> program = ((-1, 2, (1,)), (0, 1, (0, 2)), (0, 1, (3,)))
    >>> [shows_groups(program, groups_of(program)), shows_groups(program, ((0, 3), (1, 2))), shows_groups(program, ((0,), (1, 2), (3,))), shows_groups(program, ((0, 1), (2, 3)))]
    [True, True, False, False]
''',
    "e20": '''
    >>> from renamesteps.groups import gather
    >>> from renamesteps.plans import run_plan
    >>> program = ((-1, 2, (1,)), (0, 1, (0, 2)), (0, 1, (3,)))
    >>> naming = ("a", "b", "c", "b")
    >>> plan = gather(program, naming, ("a", "b", "c"))
    >>> [len(set(run_plan(program, naming, plan))), len(plan) <= 8]
    [2, True]
''',
    "e21": '''
    >>> from renamesteps.plans import run_plan
    >>> program = ((-1, 2, (1,)), (0, 1, (0, 2)), (0, 1, (3,)))
    >>> naming = ("a", "b", "b", "a")
    >>> run_plan(program, naming, ((3, "c"), (0, "c")))
    ('c', 'b', 'b', 'c')
''',
    "e22": '''
    >>> from renamesteps.plans import run_plan
    >>> program = ((-1, 2, (1,)), (0, 1, (0, 2)), (0, 1, (3,)))
    >>> naming = ("a", "b", "b", "a")
    >>> run_plan(program, naming, ((3, "b"), (0, "b")))
    raises Unsafe(1)
''',
    "e23": '''
    >>> from renamesteps.plans import shows_plan
    >>> program = ((-1, 2, (1,)), (0, 1, (0, 2)), (0, 1, (3,)))
    >>> naming = ("a", "b", "b", "a")
    >>> goal = ("c", "b", "b", "c")
    >>> plan = ((3, "c"), (0, "c"))
    >>> [shows_plan(program, naming, goal, ("a", "b", "c"), plan), shows_plan(program, naming, naming, ("a", "b", "c"), plan), shows_plan(program, naming, goal, ("a", "b", "c"), None)]
    [True, False, False]
''',
    "e24": '''
    >>> from renamesteps.plans import find_plan, shows_plan
    >>> program = ((-1, 2, (1,)), (0, 1, (0, 2)), (0, 1, (3,)))
    >>> naming = ("a", "b", "b", "a")
    >>> goal = ("b", "a", "a", "b")
    >>> pool = ("a", "b", "c")
    >>> plan = find_plan(program, naming, goal, pool)
    >>> [shows_plan(program, naming, goal, pool, plan), len(plan) <= 32]
    [True, True]
''',
    "e25": '''
    >>> from renamesteps.plans import find_plan
    >>> program = ((-1, 2, (1,)), (0, 1, (0, 2)), (0, 1, (3,)))
    >>> naming = ("a", "b", "b", "a")
    >>> find_plan(program, naming, ("b", "a", "a", "b"), ("a", "b"))
    raises TooFewNames(3)
''',
    "e26": '''
    >>> from renamesteps.plans import plan_to_name, run_plan
    >>> program = ((-1, 2, (1,)), (0, 1, (0, 2)), (0, 1, (3,)))
    >>> naming = ("a", "b", "b", "a")
    >>> plan = plan_to_name(program, naming, 0, "b", ("a", "b", "c"))
    >>> run_plan(program, naming, plan)[0]
    'b'
''',
    "e27": '''
    >>> from renamesteps.parts import frozen_declarations, full_scopes
    >>> program = ((-1, 2, (1,)), (0, 1, (0, 2)), (0, 1, (3,)))
    >>> [full_scopes(program, ("a", "b")), frozen_declarations(program, ("a", "b")), frozen_declarations(program, ("a", "b", "c"))]
    [(0, 1), (0, 1, 2), ()]
''',
    "e28": '''
    >>> from renamesteps.parts import is_free, parts_of
    >>> program = ((-1, 2, (1,)), (0, 1, (0, 2)), (0, 1, (3,)))
    >>> [parts_of(program, ("a", "b")), parts_of(program, ("a", "b", "c")), is_free(program, (3,), ("a", "b"))]
    [((3,),), ((0, 1, 2), (3,)), True]
''',
    "e29": '''
    >>> from renamesteps.parts import frozen_declarations, is_free, parts_of
    >>> program = ((-1, 2, ()), (0, 1, (0,)), (1, 2, (2,)), (0, 1, (1,)), (3, 2, (5,)))
    >>> pool = ("a", "b", "c")
    >>> [frozen_declarations(program, pool), parts_of(program, pool), is_free(program, (0, 1), pool)]
    [(2, 3, 4, 5, 6, 7), ((0, 1),), False]
''',
    "e30": '''
    >>> from renamesteps.routes import reachable_namings
    >>> program = ((-1, 2, (1,)), (0, 1, (0, 2)), (0, 1, (3,)))
    >>> naming = ("a", "b", "b", "a")
    >>> reachable_namings(program, naming, (3,), ("a", "b"))
    (('a',), ('b',))
''',
    "e31": '''
    >>> from renamesteps.routes import reachable_namings
    >>> program = ((-1, 2, (1,)), (0, 1, (0, 2)), (0, 1, (3,)))
    >>> naming = ("a", "b", "b", "a")
    >>> reachable_namings(program, naming, (3,), ("a", "b"), most=1)
    raises TooMany(1)
''',
    "e32": '''
    >>> from renamesteps.routes import find_route
    >>> program = ((-1, 2, (1,)), (0, 1, (0, 2)), (0, 1, (3,)))
    >>> naming = ("a", "b", "b", "a")
    >>> [find_route(program, naming, ("b", "a", "a", "a"), ("a", "b")), find_route(program, naming, ("a", "b", "b", "b"), ("a", "b"))[0]]
    [('frozen', 0, 0), 'plan']
''',
    "e33": '''
    >>> from renamesteps.routes import find_route
    >>> program = ((-1, 2, ()), (0, 1, (0,)), (1, 2, (2,)), (0, 1, (1,)), (3, 2, (5,)))
    >>> start = ("a", "b", "c", "a", "b", "c", "a", "b")
    >>> goal = ("b", "a", "c", "a", "b", "c", "a", "b")
    >>> find_route(program, start, goal, ("a", "b", "c"))
    ('closed', (0, 1), (('a', 'b'),))
''',
    "e34": '''
    >>> from renamesteps.routes import shows_route
    >>> program = ((-1, 2, ()), (0, 1, (0,)), (1, 2, (2,)), (0, 1, (1,)), (3, 2, (5,)))
    >>> start = ("a", "b", "c", "a", "b", "c", "a", "b")
    >>> goal = ("b", "a", "c", "a", "b", "c", "a", "b")
    >>> pool = ("a", "b", "c")
    >>> closed = (("a", "b"),)
    >>> [shows_route(program, start, goal, pool, ("closed", (0, 1), closed)), shows_route(program, start, goal, pool, ("frozen", 2, 2)), shows_route(program, start, goal, pool, ("plan", ((0, "b"),)))]
    [True, False, False]
''',
    "e35": '''
    >>> from renamesteps.shortest import fewest_renames
    >>> program = ((-1, 2, (1,)), (0, 1, (0, 2)), (0, 1, (3,)))
    >>> naming = ("a", "b", "b", "a")
    >>> goal = ("b", "a", "a", "a")
    >>> [fewest_renames(program, naming, goal, ("a", "b", "c")), fewest_renames(program, naming, goal, ("a", "b")), fewest_renames(program, naming, naming, ("a", "b"))]
    [4, None, 0]
''',
    "e36": '''
    >>> from renamesteps.plans import shows_plan
    >>> from renamesteps.shortest import shortest_plan
    >>> program = ((-1, 2, (1,)), (0, 1, (0, 2)), (0, 1, (3,)))
    >>> naming = ("a", "b", "b", "a")
    >>> goal = ("b", "a", "a", "c")
    >>> pool = ("a", "b", "c")
    >>> plan = shortest_plan(program, naming, goal, pool)
    >>> [len(plan), shows_plan(program, naming, goal, pool, plan)]
    [5, True]
''',
    "e37": '''
    >>> from renamesteps.edits import add_use, remove_use
    >>> program = ((-1, 2, (1,)), (0, 1, (0, 2)), (0, 1, (3,)))
    >>> [add_use(program, 1, 1), remove_use(program, 0, 1)]
    [((-1, 2, (1,)), (0, 1, (0, 1, 2)), (0, 1, (3,))), ((-1, 2, (1,)), (0, 1, (2,)), (0, 1, (3,)))]
''',
    "e38": '''
    >>> from renamesteps.edits import add_use
    >>> program = ((-1, 2, (1,)), (0, 1, (0, 2)), (0, 1, (3,)))
    >>> add_use(program, 2, 0)
    raises OutOfScope(0)
''',
    "e39": '''
    >>> from renamesteps.edits import add_declaration, remove_declaration
    >>> program = ((-1, 2, (1,)), (0, 1, (0, 2)), (0, 1, (3,)))
    >>> [add_declaration(program, 0), remove_declaration(((-1, 2, (1,)), (0, 1, (1,))), 0)]
    [((-1, 3, (1,)), (0, 1, (0, 3)), (0, 1, (4,))), ((-1, 1, (0,)), (0, 1, (0,)))]
''',
    "e40": '''
    >>> from renamesteps.edits import remove_declaration
    >>> program = ((-1, 2, (1,)), (0, 1, (0, 2)), (0, 1, (3,)))
    >>> remove_declaration(program, 2)
    raises StillUsed(1)
''',
    "e41": '''
    >>> from renamesteps.edits import add_scope, remove_scope
    >>> program = ((-1, 2, (1,)), (0, 1, (0, 2)), (0, 1, (3,)))
    >>> [add_scope(program, 1), remove_scope(add_scope(program, 1), 2) == program]
    [((-1, 2, (1,)), (0, 1, (0, 2)), (1, 0, ()), (0, 1, (3,))), True]
''',
    "e42": '''
    >>> from renamesteps.edits import add_use, plan_for_use
    >>> from renamesteps.plans import run_plan
    >>> from renamesteps.validity import is_valid
    >>> program = ((-1, 2, (1,)), (0, 1, (0, 2)), (0, 1, (3,)))
    >>> naming = ("a", "b", "b", "a")
    >>> plan = plan_for_use(program, naming, 1, 1, ("a", "b", "c"))
    >>> later = run_plan(program, naming, plan)
    >>> [is_valid(add_use(program, 1, 1), naming), is_valid(add_use(program, 1, 1), later)]
    [False, True]
''',
    "e43": '''
    >>> from renamesteps.edits import plan_for_use
    >>> program = ((-1, 2, (1,)), (0, 1, (0, 2)), (0, 1, (3,)))
    >>> naming = ("a", "b", "b", "a")
    >>> plan_for_use(program, naming, 1, 1, ("a", "b"))
    raises TooFewNames(3)
''',
    "e44": r'''
    >>> from renamesteps.writing import write_program
    >>> program = ((-1, 2, (1,)), (0, 1, (0, 2)), (0, 1, (3,)))
    >>> naming = ("a", "b", "b", "a")
    >>> write_program(program, naming)
    'let a\nlet b\nuse b\n{\nlet b\nuse a\nuse b\n}\n{\nlet a\nuse a\n}'
''',
    "e45": r'''
    >>> from renamesteps.reading import read_program
    >>> read_program("use f\n{\nuse f\n}\nlet f")
    (((-1, 1, (0,)), (0, 0, (0,))), ('f',))
''',
    "e46": r'''
    >>> from renamesteps.reading import read_program
    >>> read_program("{\nuse x\n}")
    raises BadText(1)
''',
    "e47": r'''
    >>> from renamesteps.reading import same_program
    >>> [same_program("let a\nuse a", "use b\nlet b"), same_program("let a\nlet b\nuse a", "let a\nlet b\nuse b")]
    [True, False]
''',
    "e48": '''
    >>> from renamesteps.workspace import Workspace
    >>> program = ((-1, 2, (1,)), (0, 1, (0, 2)), (0, 1, (3,)))
    >>> space = Workspace(program, ("a", "b", "b", "a"), ("a", "b", "c"))
    >>> names = space.rename_one(3, "b")
    >>> plan = space.give_name(0, "b")
    >>> given = space.current_naming()[0]
    >>> undone = space.undo()
    >>> [names, given, space.current_naming(), space.change_count()]
    [('a', 'b', 'b', 'b'), 'b', ('a', 'b', 'b', 'b'), 1]
''',
    "e49": '''
    >>> from renamesteps.workspace import Workspace
    >>> Workspace(((-1, 1, ()),), ("b",), ("a",))
    raises BadNaming(('b',))
''',
    "e50": '''
    >>> from renamesteps.workspace import Workspace
    >>> program = ((-1, 2, (1,)), (0, 1, (0, 2)), (0, 1, (3,)))
    >>> space = Workspace(program, ("a", "b", "b", "a"), ("a", "b"))
    >>> space.go_to(("b", "a", "a", "a"))
    raises TooFewNames(3)
''',
    "e51": r'''
    >>> from renamesteps.desk import Desk
    >>> desk = Desk("let a\nlet b\nuse b\n{\nlet b\nuse a\nuse b\n}\n{\nlet a\nuse a\n}")
    >>> first = [desk.say("width"), desk.say("region 0"), desk.say("free 3"), desk.say("rename 3 c")]
    >>> second = [desk.say("widen d"), desk.say("needed 1"), desk.say("frozen"), desk.say("undo"), desk.say("pool")]
    >>> [first, second]
    [['2', '0 1', 'b c', 'a b b c'], ['a b c d', '0 2', '-', 'done', 'a b c']]
''',
    "e52": '''
    >>> from renamesteps.desk import Desk
    >>> desk = Desk()
    >>> desk.say("rename 0")
    raises BadLine('rename 0')
''',
    "e53": '''
    >>> from renamesteps.desk import Desk
    >>> desk = Desk()
    >>> desk.say("rename 0 a")
    raises NoDeclaration(0)
''',
}


def lines_of(block):
    return [line.strip() for line in block.strip().split("\n")]


def value_of(code):
    """What the last line of an example returns."""
    space = {}
    exec("\n".join(code[:-1]), space)
    return eval(code[-1], space)


class ExamplesTest(unittest.TestCase):
    def run_example(self, block):
        *steps, expected = lines_of(block)
        code = [step.removeprefix(">>> ") for step in steps]
        if not expected.startswith("raises "):
            self.assertEqual(repr(value_of(code)), expected)
            return
        awaited = eval(expected.removeprefix("raises "), vars(errors))
        with self.assertRaises(type(awaited)) as context:
            value_of(code)
        self.assertEqual(vars(context.exception), vars(awaited))

    def test_all_examples(self):
        for name, block in EXAMPLES.items():
            with self.subTest(name):
                self.run_example(block)

    @unittest.skipUnless(DOCUMENT.exists(), "the document is not beside the repository")
    def test_the_document_has_these_examples(self):
        text = DOCUMENT.read_text(encoding="utf-8")
        found = dict(re.findall(r"^Example (e\d\d):\n\n((?:    .*\n?)+)", text, re.MULTILINE))
        wanted = [f"e{number:02}" for number in range(1, LAST_EXAMPLE + 1)]
        self.assertEqual(list(EXAMPLES), wanted)
        self.assertEqual(list(found), wanted)
        for name in wanted:
            with self.subTest(name):
                self.assertEqual(lines_of(EXAMPLES[name]), lines_of(found[name]))

    def test_the_examples_of_the_readme(self):
        failed, tried = doctest.testfile(str(README), module_relative=False)
        self.assertEqual(failed, 0)
        self.assertGreater(tried, 0)


if __name__ == "__main__":
    unittest.main()

"""A workspace: a program with a valid naming and a pool, which changes step by step and can go back."""

from renamesteps.edits import add_use, plan_for_use, remove_use
from renamesteps.errors import BadName, BadPool, BadProgram, NothingToUndo, TooLarge
from renamesteps.names import MOST_NAMES, is_name, is_pool
from renamesteps.plans import find_plan, plan_to_name, run_plan
from renamesteps.programs import check_declaration, is_program
from renamesteps.renames import rename
from renamesteps.validity import check_naming


class Workspace:
    """A program with a valid naming and a pool that has all its names."""

    def __init__(self, program, naming, pool):
        if not is_program(program):
            raise BadProgram(program)
        if not is_pool(pool):
            raise BadPool(pool)
        check_naming(program, naming, pool)
        self.program = program
        self.naming = naming
        self.pool = pool
        # For each change that is not undone, the program, the naming and the pool before it.
        self.former = []

    def rename_one(self, declaration, name):
        """Renames the declaration, and returns the new naming."""
        self.check_name(declaration, name)
        naming = rename(self.program, self.naming, declaration, name)
        self.change(self.program, naming, self.pool)
        return naming

    def go_to(self, goal):
        """Carries out a plan to another naming, and returns the plan."""
        check_naming(self.program, goal, self.pool)
        # Where nothing differs, no room is needed.
        plan = () if goal == self.naming else find_plan(self.program, self.naming, goal, self.pool)
        self.carry_out(self.program, plan)
        return plan

    def give_name(self, declaration, name):
        """Carries out a plan after which the declaration has the name, and returns the plan."""
        self.check_name(declaration, name)
        plan = ()
        if self.naming[declaration] != name:
            plan = plan_to_name(self.program, self.naming, declaration, name, self.pool)
        self.carry_out(self.program, plan)
        return plan

    def use_in(self, declaration, scope):
        """Carries out a plan after which the use can be added, adds it, and returns the plan."""
        plan = plan_for_use(self.program, self.naming, declaration, scope, self.pool)
        self.carry_out(add_use(self.program, declaration, scope), plan)
        return plan

    def unuse_in(self, declaration, scope):
        """Removes the use."""
        self.change(remove_use(self.program, declaration, scope), self.naming, self.pool)

    def widen_pool(self, name):
        """Adds the name at the end of the pool, and returns the new pool."""
        if not is_name(name) or name in self.pool:
            raise BadName(name)
        if len(self.pool) >= MOST_NAMES:
            raise TooLarge(MOST_NAMES)
        self.change(self.program, self.naming, self.pool + (name,))
        return self.pool

    def undo(self):
        """Takes back the last change that is not undone."""
        if not self.former:
            raise NothingToUndo(0)
        self.program, self.naming, self.pool = self.former.pop()

    def current_program(self):
        """The present program."""
        return self.program

    def current_naming(self):
        """The present naming."""
        return self.naming

    def current_pool(self):
        """The present pool."""
        return self.pool

    def change_count(self):
        """The number of changes that are not undone."""
        return len(self.former)

    def copy(self):
        """A workspace with the same values and changes, which changes independently."""
        twin = Workspace(self.program, self.naming, self.pool)
        twin.former = list(self.former)
        return twin

    def __eq__(self, other):
        return (
            isinstance(other, Workspace) and self.program == other.program and self.naming == other.naming
            and self.pool == other.pool)

    def check_name(self, declaration, name):
        """Raises NoDeclaration if there is no such declaration, BadName if the pool does not have the name."""
        check_declaration(self.program, declaration)
        if not is_name(name) or name not in self.pool:
            raise BadName(name)

    def carry_out(self, program, plan):
        """Makes one change: the naming after the plan, and this program."""
        self.change(program, run_plan(self.program, self.naming, plan), self.pool)

    def change(self, program, naming, pool):
        """Makes these the present values, and remembers those before."""
        self.former.append((self.program, self.naming, self.pool))
        self.program = program
        self.naming = naming
        self.pool = pool

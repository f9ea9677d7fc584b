"""Plans: carrying them out, checking them and finding them."""

from renamesteps.errors import BadName, BadPlan, Unsafe
from renamesteps.fewest import check_room, smallest_numbers
from renamesteps.groups import gathered, group_moves
from renamesteps.names import is_name
from renamesteps.programs import check_declaration, declaration_count, is_number_below
from renamesteps.regions import conflict_lists, conflicts_of
from renamesteps.renames import is_safe
from renamesteps.validity import check_naming


def is_plan(program, value):
    """Whether any value is a tuple of pairs of a number of a declaration and a name."""
    count = declaration_count(program)
    return isinstance(value, tuple) and all([is_rename(pair, count) for pair in value])


def is_rename(value, count):
    """Whether any value is a rename in a program with so many declarations."""
    return isinstance(value, tuple) and len(value) == 2 and is_number_below(value[0], count) and is_name(value[1])


def run_plan(program, naming, plan):
    """The naming after all renames of the plan."""
    if not is_plan(program, plan):
        raise BadPlan(plan)
    conflicts = conflict_lists(program)
    names = list(naming)
    for index, (declaration, name) in enumerate(plan):
        if not is_safe(names, conflicts[declaration], declaration, name):
            raise Unsafe(index)
        names[declaration] = name
    return tuple(names)


def shows_plan(program, start, goal, pool, value):
    """Whether any value is a plan with names of the pool that leads from one naming to the other."""
    if not is_plan(program, value) or not all([name in pool for declaration, name in value]):
        return False
    try:
        return run_plan(program, start, value) == goal
    except Unsafe:
        return False


def find_plan(program, start, goal, pool):
    """A plan with names of the pool that leads from start to goal.

    It gathers the groups from both ends, and between these it moves whole groups.
    """
    check_naming(program, start, pool)
    check_naming(program, goal, pool)
    check_room(program, pool)
    if start == goal:
        return ()
    there, names = gathered(program, start, pool)
    beyond, wanted = gathered(program, goal, pool)
    return there + moves_plan(program, names, wanted, pool) + reversed_plan(goal, beyond)


def plan_to_name(program, naming, declaration, name, pool):
    """A plan with names of the pool after which the declaration has the name."""
    check_declaration(program, declaration)
    check_naming(program, naming, pool)
    if not is_name(name) or name not in pool:
        raise BadName(name)
    check_room(program, pool)
    if naming[declaration] == name:
        return ()
    if is_safe(naming, conflicts_of(program, declaration), declaration, name):
        return ((declaration, name),)
    plan, names = gathered(program, naming, pool)
    own = smallest_numbers(program)[declaration]
    # The group that has the name takes that of the declaration's group in exchange.
    wanted = {group: names[own] if names[group] == name else names[group] for group in names}
    wanted[own] = name
    return plan + moves_plan(program, names, wanted, pool)


def moves_plan(program, names, wanted, pool):
    """The plan that turns one dict of the names of all groups into another one."""
    numbers = smallest_numbers(program)
    return tuple([
        (declaration, name)
        for group, name in group_moves(names, wanted, pool)
        for declaration in range(len(numbers)) if numbers[declaration] == group])


def reversed_plan(naming, plan):
    """The plan that leads back to the naming after this plan."""
    names = list(naming)
    back = []
    for declaration, name in plan:
        back.append((declaration, names[declaration]))
        names[declaration] = name
    return tuple(back[::-1])

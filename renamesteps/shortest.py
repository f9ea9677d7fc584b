"""The fewest renames that lead from one naming to another one."""

from renamesteps.routes import different_frozen, different_parts, naming_of_part, way_to, ways_within
from renamesteps.validity import check_naming


def fewest_renames(program, start, goal, pool, *, most=2000):
    """The smallest number of renames of a plan from start to goal, or None if there is no plan."""
    plan = shortest_plan(program, start, goal, pool, most=most)
    return None if plan is None else len(plan)


def shortest_plan(program, start, goal, pool, *, most=2000):
    """A plan from start to goal with the fewest renames, or None if there is no plan.

    It goes through the parts one after the other, because they do not depend on each other.
    """
    check_naming(program, start, pool)
    check_naming(program, goal, pool)
    if different_frozen(program, start, goal, pool):
        return None
    plan = ()
    for part in different_parts(program, start, goal, pool):
        before = ways_within(program, start, part, pool, most)
        wanted = naming_of_part(goal, part)
        if wanted not in before:
            return None
        plan += way_to(before, part, wanted)
    return plan

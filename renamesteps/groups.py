"""Groups of declarations without conflicts, and plans that give all declarations of a group the same name."""

from renamesteps.fewest import check_room, smallest_numbers
from renamesteps.programs import PARENT, declaration_count, homes_of, inner_scopes, is_ascending
from renamesteps.regions import all_conflicts, all_needed, width_of
from renamesteps.validity import check_naming


def groups_of(program):
    """The tuple of the groups, each an ascending tuple of declarations, in ascending order of their first ones."""
    numbers = smallest_numbers(program)
    # A declaration is given a number only if a smaller declaration has each smaller number: so the order is right.
    return tuple([
        tuple([declaration for declaration in range(len(numbers)) if numbers[declaration] == group])
        for group in range(width_of(program))])


def shows_groups(program, value):
    """Whether any value is a tuple that groups_of might return."""
    if not isinstance(value, tuple) or len(value) != width_of(program):
        return False
    if not all([is_ascending(group) and len(group) > 0 for group in value]):
        return False
    if not is_ascending(tuple([group[0] for group in value])):
        return False
    members = sorted([declaration for group in value for declaration in group])
    return members == list(range(declaration_count(program))) and not has_inner_conflict(program, value)


def has_inner_conflict(program, groups):
    """Whether two declarations of one group conflict, if every declaration is in exactly one group."""
    places = {declaration: place for place, group in enumerate(groups) for declaration in group}
    return any([places[one] == places[other] for one, other in all_conflicts(program)])


def gather(program, naming, pool):
    """A plan to a naming in which two declarations have the same name exactly if they are in the same group."""
    check_naming(program, naming, pool)
    check_room(program, pool)
    return gathered(program, naming, pool)[0]


def gathered(program, naming, pool):
    """The plan of gather, and the dict of the name that each group has after it.

    The scopes are joined to their parents one after the other, the innermost first. For each scope there is a dict of
    names: what the declarations of a group are called that are needed in it or in the scopes joined to it. Before a
    scope is joined, its groups take the names that they have in the parent. A group with a declaration that is needed
    in both has the right name already. Of any other group, the declarations here have their homes in this scope or
    inside it, and conflict only with what is needed there. So each declaration is renamed at most twice for each scope
    around it except scope 0.
    """
    numbers = smallest_numbers(program)
    homes = homes_of(program)
    names = [{numbers[declaration]: naming[declaration] for declaration in row} for row in all_needed(program)]
    plan = []
    # In descending order, all scopes inside a scope have been joined to it before its own turn.
    for scope in range(len(program) - 1, 0, -1):
        parent = program[scope][PARENT]
        names[parent] = joined_names(names[scope], names[parent], pool)
        inner = inner_scopes(program, scope)
        inside = [declaration for declaration in range(len(homes)) if homes[declaration] in inner]
        for group, name in group_moves(names[scope], names[parent], pool):
            plan.extend([(declaration, name) for declaration in inside if numbers[declaration] == group])
    return tuple(plan), names[0]


def joined_names(inner, outer, pool):
    """The names of the groups of a parent, and a name for each group that only the scope to be joined has."""
    joined = {group: outer[group] for group in outer}
    for group in inner:
        if group not in joined:
            taken = list(joined.values())
            # A group that keeps its name needs no rename. Otherwise a name is left: there are more names than groups.
            choices = [name for name in (inner[group], *pool) if name not in taken]
            joined[group] = choices[0]
    return joined


def group_moves(names, wanted, pool):
    """The list of moves (group, name) after which each group has the wanted name.

    Each move is to a name that no group has at that time, and no group is moved more than twice.
    """
    present = {group: names[group] for group in names}
    moves = []
    waiting = [group for group in names if names[group] != wanted[group]]
    while waiting:
        moved, name = next_move(present, waiting, wanted, pool)
        present[moved] = name
        moves.append((moved, name))
        waiting = [group for group in waiting if present[group] != wanted[group]]
    return moves


def next_move(present, waiting, wanted, pool):
    """A move to the wanted name, or, if all of these are taken, out of the way."""
    taken = list(present.values())
    for group in waiting:
        if wanted[group] not in taken:
            return group, wanted[group]
    # The groups wait in circles for each other's names. When one gives way, the others of its circle can follow one
    # after the other, and it comes last. So it does not have to give way again.
    spare = [name for name in pool if name not in taken]
    return waiting[0], spare[0]

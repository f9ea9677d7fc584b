"""Regions: where declarations are needed, and which of them conflict."""

from renamesteps.programs import PARENT, USES, check_declaration, check_scope, homes_of


def all_needed(program):
    """For each scope, the ascending tuple of the declarations that are needed in it."""
    homes = homes_of(program)
    marks = [{} for row in program]
    for declaration in range(len(homes)):
        marks[homes[declaration]][declaration] = True
    for scope in range(len(program)):
        for declaration in program[scope][USES]:
            at = scope
            # The home is marked, and every way is marked up to it: behind a marked scope there is nothing left to do.
            while declaration not in marks[at]:
                marks[at][declaration] = True
                at = program[at][PARENT]
    return [tuple(sorted(row)) for row in marks]


def region_of(program, declaration):
    """The region of a declaration, as an ascending tuple of scopes."""
    check_declaration(program, declaration)
    needed = all_needed(program)
    return tuple([scope for scope in range(len(program)) if declaration in needed[scope]])


def needed_in(program, scope):
    """The ascending tuple of the declarations that are needed in the scope."""
    check_scope(program, scope)
    return all_needed(program)[scope]


def smaller_conflicts(program):
    """For each declaration, the ascending tuple of the conflicting declarations with smaller numbers."""
    homes = homes_of(program)
    needed = all_needed(program)
    # From a scope that two regions have in common, the ways to both homes lead outward, and one passes the other's
    # home. So the inner home is in both regions. It is the home of the greater number, because scopes are in preorder.
    return [
        tuple([other for other in needed[homes[declaration]] if other < declaration])
        for declaration in range(len(homes))]


def conflict_lists(program):
    """For each declaration, the ascending list of the declarations that conflict with it."""
    smaller = smaller_conflicts(program)
    lists = [list(row) for row in smaller]
    for declaration in range(len(smaller)):
        for other in smaller[declaration]:
            lists[other].append(declaration)
    return lists


def in_conflict(program, one, other):
    """Whether the two declarations conflict."""
    check_declaration(program, one)
    check_declaration(program, other)
    return other in conflict_lists(program)[one]


def conflicts_of(program, declaration):
    """The ascending tuple of the declarations that conflict with a declaration."""
    check_declaration(program, declaration)
    return tuple(conflict_lists(program)[declaration])


def all_conflicts(program):
    """The ascending tuple of all pairs of conflicting declarations, the smaller one first."""
    lists = conflict_lists(program)
    return tuple([(one, other) for one in range(len(lists)) for other in lists[one] if one < other])


def width_of(program):
    """The greatest load of a scope."""
    return max([len(row) for row in all_needed(program)])


def widest_scope(program):
    """The smallest number of a scope whose load is the width."""
    loads = [len(row) for row in all_needed(program)]
    return loads.index(max(loads))

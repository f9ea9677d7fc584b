"""Edits of programs: uses, declarations and scopes that are added or removed."""

from renamesteps.errors import MissingUse, NotEmpty, OutOfScope, StillUsed, TooLarge
from renamesteps.fewest import check_room, smallest_naming
from renamesteps.plans import find_plan
from renamesteps.programs import (
    COUNT, MOST_DECLARATIONS, MOST_SCOPES, PARENT, USES, check_declaration, check_scope, declaration_count,
    enclosing_scopes, home_of, inner_scopes)
from renamesteps.renames import free_names
from renamesteps.validity import check_naming, is_valid


def with_uses(program, scope, uses):
    """The program in which the scope has these uses."""
    row = (program[scope][PARENT], program[scope][COUNT], tuple(uses))
    return program[:scope] + (row,) + program[scope + 1:]


def check_visible(program, declaration, scope):
    """Raises OutOfScope if the home of the declaration does not enclose the scope."""
    if home_of(program, declaration) not in enclosing_scopes(program, scope):
        raise OutOfScope(scope)


def add_use(program, declaration, scope):
    """The program in which the scope uses the declaration, too."""
    check_declaration(program, declaration)
    check_scope(program, scope)
    check_visible(program, declaration, scope)
    uses = program[scope][USES]
    if declaration in uses:
        return program
    return with_uses(program, scope, sorted(uses + (declaration,)))


def remove_use(program, declaration, scope):
    """The program in which the scope does not use the declaration."""
    check_declaration(program, declaration)
    check_scope(program, scope)
    uses = program[scope][USES]
    if declaration not in uses:
        raise MissingUse(scope)
    return with_uses(program, scope, [used for used in uses if used != declaration])


def with_count(program, scope, first, change):
    """The program with another number of declarations of the scope, in which those from the first one on move."""
    return tuple([
        (row[PARENT], row[COUNT] + change if at == scope else row[COUNT],
         tuple([used + change if used >= first else used for used in row[USES]]))
        for at, row in enumerate(program)])


def add_declaration(program, scope):
    """The program in which the scope declares one declaration more, the last one of this scope."""
    check_scope(program, scope)
    if declaration_count(program) >= MOST_DECLARATIONS:
        raise TooLarge(MOST_DECLARATIONS)
    return with_count(program, scope, declaration_count(program[:scope + 1]), 1)


def remove_declaration(program, declaration):
    """The program without the declaration."""
    home = home_of(program, declaration)
    for scope, row in enumerate(program):
        if declaration in row[USES]:
            raise StillUsed(scope)
    return with_count(program, home, declaration, -1)


def with_moved_parents(rows, first, change):
    """These rows of a program, in which the scopes from the first one on have other numbers."""
    return tuple([
        (row[PARENT] + change if row[PARENT] >= first else row[PARENT], row[COUNT], row[USES]) for row in rows])


def add_scope(program, scope):
    """The program with a new scope directly inside the scope, after all scopes inside it."""
    place = inner_scopes(program, scope)[-1] + 1
    if len(program) >= MOST_SCOPES:
        raise TooLarge(MOST_SCOPES)
    return program[:place] + ((scope, 0, ()),) + with_moved_parents(program[place:], place, 1)


def remove_scope(program, scope):
    """The program without the scope."""
    inner = inner_scopes(program, scope)
    if scope == 0 or program[scope][COUNT] > 0 or program[scope][USES] or len(inner) > 1:
        raise NotEmpty(scope)
    return program[:scope] + with_moved_parents(program[scope + 1:], scope + 1, -1)


def plan_for_use(program, naming, declaration, scope, pool):
    """A plan that leads to a naming that is valid for the program with this use, too."""
    check_declaration(program, declaration)
    check_scope(program, scope)
    check_naming(program, naming, pool)
    later = add_use(program, declaration, scope)
    if is_valid(later, naming):
        return ()
    check_room(program, pool)
    # The new use only adds conflicts of this declaration. So one rename suffices if one of its names avoids them all.
    names = free_names(later, naming, declaration, pool)
    if names:
        return ((declaration, names[0]),)
    # The use increases the width by at most 1, so the pool has enough names for a naming that is valid with it.
    return find_plan(program, naming, smallest_naming(later, pool), pool)

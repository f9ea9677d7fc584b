"""Full scopes, frozen declarations, and the parts that the other declarations form."""

from renamesteps.regions import all_needed, conflict_lists


def full_scopes(program, pool):
    """The ascending tuple of the scopes whose load equals the number of names."""
    needed = all_needed(program)
    return tuple([scope for scope in range(len(program)) if len(needed[scope]) == len(pool)])


def frozen_declarations(program, pool):
    """The ascending tuple of the declarations that are needed in a full scope."""
    needed = all_needed(program)
    return tuple(sorted({declaration for scope in full_scopes(program, pool) for declaration in needed[scope]}))


def parts_of(program, pool):
    """The tuple of all parts in ascending order of their first declarations."""
    conflicts = conflict_lists(program)
    frozen = frozen_declarations(program, pool)
    loose = [declaration for declaration in range(len(conflicts)) if declaration not in frozen]
    parts = []
    while loose:
        part = part_with(conflicts, loose[0], loose)
        parts.append(part)
        loose = [declaration for declaration in loose if declaration not in part]
    return tuple(parts)


def part_with(conflicts, declaration, loose):
    """The part of a declaration, among declarations that are not frozen and are in no other part."""
    found = [declaration]
    at = 0
    while at < len(found):
        found.extend([other for other in conflicts[found[at]] if other in loose and other not in found])
        at += 1
    return tuple(sorted(found))


def is_free(program, part, pool):
    """Whether none of the declarations of a part conflicts with a frozen one."""
    conflicts = conflict_lists(program)
    frozen = frozen_declarations(program, pool)
    return not any([other in frozen for declaration in part for other in conflicts[declaration]])

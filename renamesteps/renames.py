"""Single renames: which ones are safe, and what stands in the way of the others."""

from renamesteps.errors import BadName, Clash
from renamesteps.names import is_name
from renamesteps.regions import conflict_lists, conflicts_of


def is_safe(naming, conflicting, declaration, name):
    """Whether a rename of a valid naming is safe, for the declarations that conflict with the renamed one."""
    return naming[declaration] != name and name not in [naming[other] for other in conflicting]


def blockers(program, naming, declaration, name):
    """The ascending tuple of the conflicting declarations that have the name."""
    return tuple([other for other in conflicts_of(program, declaration) if naming[other] == name])


def free_names(program, naming, declaration, pool):
    """The tuple of all names of the pool, in its order, that a safe rename can give the declaration."""
    conflicting = conflicts_of(program, declaration)
    return tuple([name for name in pool if is_safe(naming, conflicting, declaration, name)])


def rename(program, naming, declaration, name):
    """The naming after the rename."""
    conflicting = conflicts_of(program, declaration)
    if not is_name(name):
        raise BadName(name)
    for other in conflicting:
        if naming[other] == name:
            raise Clash(other)
    if naming[declaration] == name:
        return naming
    return naming[:declaration] + (name,) + naming[declaration + 1:]


def all_renames(program, naming, pool):
    """The tuple of all safe renames that give a declaration another name of the pool."""
    conflicts = conflict_lists(program)
    return tuple([
        (declaration, name)
        for declaration in range(len(conflicts)) for name in pool
        if is_safe(naming, conflicts[declaration], declaration, name)])

"""Which namings are valid, and the reasons why others are not."""

from renamesteps.errors import BadNaming
from renamesteps.names import is_naming
from renamesteps.programs import PARENT, USES, declarations_of


def find_problems(program, naming):
    """The tuple of all reasons why a naming is not valid, scope by scope."""
    found = found_everywhere(program, naming)
    problems = []
    for scope in range(len(program)):
        problems.extend(duplicates_in(program, naming, scope))
        problems.extend(captures_in(program, naming, scope, found[scope]))
    return tuple(problems)


def is_valid(program, naming):
    """Whether the naming is valid."""
    return find_problems(program, naming) == ()


def check_naming(program, naming, pool):
    """Raises BadNaming if any value is not a valid naming whose names are all in the pool."""
    if not is_naming(program, naming) or not all([name in pool for name in naming]) or not is_valid(program, naming):
        raise BadNaming(naming)


def found_everywhere(program, naming):
    """For each scope, the dict of what looking up each name from it finds.

    The dict of a scope is made from that of its parent, because looking up every use on its own takes long.
    """
    found = []
    for scope in range(len(program)):
        own = {}
        for declaration in declarations_of(program, scope):
            own.setdefault(naming[declaration], declaration)
        around = {} if scope == 0 else found[program[scope][PARENT]]
        found.append({**around, **own})
    return found


def duplicates_in(program, naming, scope):
    """The problems of two declarations of the scope that have the same name."""
    own = declarations_of(program, scope)
    return [
        ("duplicate", scope, first, second)
        for first in own for second in own if first < second and naming[first] == naming[second]]


def captures_in(program, naming, scope, found):
    """The problems of uses in the scope that find another declaration."""
    return [
        ("captured", scope, declaration, found[naming[declaration]])
        for declaration in program[scope][USES] if found[naming[declaration]] != declaration]

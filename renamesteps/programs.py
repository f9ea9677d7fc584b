"""Programs: their scopes, their declarations, and what encloses what."""

from renamesteps.errors import NoDeclaration, NoScope

MOST_SCOPES = 40
MOST_DECLARATIONS = 60

# The places of the three members of a scope.
PARENT = 0
COUNT = 1
USES = 2


def is_whole(value):
    """Whether any value is an integer; True and False are none."""
    return isinstance(value, int) and not isinstance(value, bool)


def is_number_below(value, limit):
    """Whether any value is one of the integers from 0 up to, but not including, the limit."""
    return is_whole(value) and 0 <= value < limit


def is_ascending(value):
    """Whether any value is an ascending tuple of integers without duplicates."""
    if not isinstance(value, tuple) or not all([is_whole(item) for item in value]):
        return False
    return all([value[at] < value[at + 1] for at in range(len(value) - 1)])


def is_program(value):
    """Whether any value is a program."""
    if not isinstance(value, tuple) or not 1 <= len(value) <= MOST_SCOPES:
        return False
    if not all([has_scope_form(row) for row in value]):
        return False
    # The total is checked before the uses, which need one home for each declaration: a count may be huge.
    if declaration_count(value) > MOST_DECLARATIONS:
        return False
    return is_in_preorder(value) and has_visible_uses(value)


def has_scope_form(value):
    """Whether any value is a scope, as far as it can be judged without the other scopes."""
    if not isinstance(value, tuple) or len(value) != 3:
        return False
    parent, count, uses = value
    return is_whole(parent) and is_whole(count) and count >= 0 and is_ascending(uses)


def is_in_preorder(program):
    """Whether the parents of a tuple of scopes number them in preorder."""
    if program[0][PARENT] != -1:
        return False
    for scope in range(1, len(program)):
        if program[scope][PARENT] not in enclosing_scopes(program, scope - 1):
            return False
    return True


def has_visible_uses(program):
    """Whether each use of a tuple of scopes in preorder is of a declaration whose home encloses the scope."""
    homes = homes_of(program)
    for scope in range(len(program)):
        around = enclosing_scopes(program, scope)
        for declaration in program[scope][USES]:
            if not is_number_below(declaration, len(homes)) or homes[declaration] not in around:
                return False
    return True


def check_declaration(program, declaration):
    """Raises NoDeclaration if any value is not the number of a declaration."""
    if not is_number_below(declaration, declaration_count(program)):
        raise NoDeclaration(declaration)


def check_scope(program, scope):
    """Raises NoScope if any value is not the number of a scope."""
    if not is_number_below(scope, len(program)):
        raise NoScope(scope)


def declaration_count(program):
    """The number of declarations of a program, or of some of its scopes."""
    return sum([row[COUNT] for row in program])


def homes_of(program):
    """The tuple of the homes of all declarations, in ascending order of the declarations."""
    return tuple([scope for scope in range(len(program)) for each in range(program[scope][COUNT])])


def home_of(program, declaration):
    """The number of the scope that declares the declaration."""
    check_declaration(program, declaration)
    return homes_of(program)[declaration]


def declarations_of(program, scope):
    """The ascending tuple of the declarations of a scope."""
    check_scope(program, scope)
    first = declaration_count(program[:scope])
    return tuple(range(first, first + program[scope][COUNT]))


def enclosing_scopes(program, scope):
    """The tuple of all scopes that enclose the scope, from itself outward to scope 0."""
    check_scope(program, scope)
    around = [scope]
    while around[-1] != 0:
        around.append(program[around[-1]][PARENT])
    return tuple(around)


def inner_scopes(program, scope):
    """The ascending tuple of all scopes that the scope encloses, itself included."""
    check_scope(program, scope)
    # In preorder, no scope inside this one has a smaller number.
    return tuple([inner for inner in range(scope, len(program)) if scope in enclosing_scopes(program, inner)])


def height_of(program):
    """The largest number of scopes that enclose one scope."""
    return max([len(enclosing_scopes(program, scope)) for scope in range(len(program))])

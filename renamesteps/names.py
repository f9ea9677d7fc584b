"""Names, pools and namings, and how a name is looked up."""

from renamesteps.programs import declaration_count, declarations_of, enclosing_scopes

LONGEST_NAME = 8
MOST_NAMES = 80


def is_name(value):
    """Whether any value is a name."""
    if not isinstance(value, str) or not 1 <= len(value) <= LONGEST_NAME:
        return False
    # Methods such as islower would also accept letters beyond a to z.
    return all(["a" <= letter <= "z" for letter in value])


def is_tuple_of_names(value):
    """Whether any value is a tuple of names, which need not be distinct."""
    return isinstance(value, tuple) and all([is_name(item) for item in value])


def is_pool(value):
    """Whether any value is a pool."""
    # Only names are put into the set: other values may be no members of one.
    return is_tuple_of_names(value) and len(value) <= MOST_NAMES and len(set(value)) == len(value)


def is_naming(program, value):
    """Whether any value is a naming of this program."""
    return is_tuple_of_names(value) and len(value) == declaration_count(program)


def look_up(program, naming, scope, name):
    """The declaration that is found if the name is looked up from the scope, or None."""
    around = enclosing_scopes(program, scope)
    if not isinstance(name, str):
        return None
    for outer in around:
        for declaration in declarations_of(program, outer):
            if naming[declaration] == name:
                return declaration
    return None

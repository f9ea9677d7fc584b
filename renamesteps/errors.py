"""The errors of the package: each one holds the value that caused it in its only field."""


class RenameError(ValueError):
    """The base class of all errors of the package."""


class NoScope(RenameError):
    """A value is not the number of a scope."""

    def __init__(self, scope):
        self.scope = scope


class NoDeclaration(RenameError):
    """A value is not the number of a declaration."""

    def __init__(self, declaration):
        self.declaration = declaration


class BadName(RenameError):
    """A value is not a name that can be given."""

    def __init__(self, name):
        self.name = name


class BadNaming(RenameError):
    """A value is not a valid naming with names of the pool."""

    def __init__(self, naming):
        self.naming = naming


class BadProgram(RenameError):
    """A value is not a program."""

    def __init__(self, program):
        self.program = program


class BadPool(RenameError):
    """A value is not a pool, or does not describe one."""

    def __init__(self, pool):
        self.pool = pool


class BadPlan(RenameError):
    """A value is not a tuple of renames."""

    def __init__(self, plan):
        self.plan = plan


class Unsafe(RenameError):
    """The rename at this index of a plan is not safe."""

    def __init__(self, index):
        self.index = index


class Clash(RenameError):
    """A conflicting declaration has the name already."""

    def __init__(self, other):
        self.other = other


class TooFewNames(RenameError):
    """The pool has fewer names than are needed."""

    def __init__(self, needed):
        self.needed = needed


class TooMany(RenameError):
    """There are more reachable namings than this."""

    def __init__(self, most):
        self.most = most


class TooLarge(RenameError):
    """A program or a pool would grow beyond this limit."""

    def __init__(self, limit):
        self.limit = limit


class OutOfScope(RenameError):
    """The home of a declaration does not enclose this scope."""

    def __init__(self, scope):
        self.scope = scope


class MissingUse(RenameError):
    """This scope does not use the declaration."""

    def __init__(self, scope):
        self.scope = scope


class StillUsed(RenameError):
    """This scope still uses the declaration."""

    def __init__(self, scope):
        self.scope = scope


class NotEmpty(RenameError):
    """This scope cannot be removed, because it is not empty."""

    def __init__(self, scope):
        self.scope = scope


class NothingToUndo(RenameError):
    """There is no change that could be undone."""

    def __init__(self, count):
        self.count = count


class BadText(RenameError):
    """This line of a text cannot be read."""

    def __init__(self, line):
        self.line = line


class BadLine(RenameError):
    """A value is not a line that the desk understands."""

    def __init__(self, line):
        self.line = line

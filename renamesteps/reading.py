"""Reading a program and a naming from a text."""

from renamesteps.errors import BadText
from renamesteps.names import is_name
from renamesteps.programs import MOST_DECLARATIONS, MOST_SCOPES
from renamesteps.validity import found_everywhere


class Outline:
    """What the lines of a text that have been taken so far say.

    For each scope there are its parent and the names that it declares, for each use its line, its scope and its name.
    The scopes that have not ended are those around the last line, from scope 0 inward.
    """

    def __init__(self):
        self.parents = [-1]
        self.declared = [[]]
        self.mentions = []
        self.around = [0]

    def take_line(self, number, line):
        """Takes the next line, and returns whether it may stand there."""
        if line == "{":
            return self.begin_scope()
        if line == "}":
            return self.end_scope()
        if line[:4] == "let ":
            return self.declare(line[4:])
        if line[:4] == "use " and is_name(line[4:]):
            self.mentions.append((number, self.around[-1], line[4:]))
            return True
        return False

    def begin_scope(self):
        """Begins a scope inside the present one, unless there are as many as a program can have."""
        if len(self.parents) >= MOST_SCOPES:
            return False
        self.parents.append(self.around[-1])
        self.declared.append([])
        self.around.append(len(self.parents) - 1)
        return True

    def end_scope(self):
        """Ends the present scope, unless it is scope 0."""
        if len(self.around) == 1:
            return False
        self.around.pop()
        return True

    def declare(self, name):
        """Declares any string in the present scope, unless it is no name or there already, or there are too many."""
        names = self.declared[self.around[-1]]
        if not is_name(name) or name in names or len(self.all_names()) >= MOST_DECLARATIONS:
            return False
        names.append(name)
        return True

    def all_names(self):
        """The names of all declarations, in the order of their numbers."""
        return tuple([name for names in self.declared for name in names])


def read_outline(lines):
    """The outline of all lines, if each of them may stand where it does and all scopes end."""
    outline = Outline()
    for number, line in enumerate(lines):
        if not outline.take_line(number, line):
            raise BadText(number)
    if len(outline.around) > 1:
        raise BadText(len(lines))
    return outline


def read_program(text):
    """The pair of the program and the naming that a text describes."""
    if not isinstance(text, str):
        raise BadText(0)
    # The empty text has no lines, but splitting it would give one.
    outline = read_outline(text.split("\n") if text else [])
    naming = outline.all_names()
    uses = read_uses(outline, naming)
    return program_with(outline, [tuple(sorted(used)) for used in uses]), naming


def program_with(outline, uses):
    """The program of an outline in which the scopes have these uses."""
    return tuple([
        (parent, len(outline.declared[scope]), uses[scope]) for scope, parent in enumerate(outline.parents)])


def read_uses(outline, naming):
    """For each scope, the dict whose keys are the declarations that it uses."""
    uses = [{} for parent in outline.parents]
    # A declaration may stand behind its uses. So names are looked up only when all lines have been read.
    found = found_everywhere(program_with(outline, [()] * len(uses)), naming)
    for number, scope, name in outline.mentions:
        if name not in found[scope]:
            raise BadText(number)
        uses[scope][found[scope][name]] = True
    return uses


def same_program(one, other):
    """Whether two texts describe the same program, whatever the names are."""
    first = read_program(one)[0]
    return first == read_program(other)[0]

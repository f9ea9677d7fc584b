"""Writing a program with a naming as a text."""

from renamesteps.programs import PARENT, USES, declarations_of


def write_program(program, naming):
    """The text of the program: in each scope the declarations, then the uses, then the scopes directly inside it."""
    lines = own_lines(program, naming, 0)
    around = [0]
    for scope in range(1, len(program)):
        # Scopes are numbered as they begin. So those that do not enclose this one end before it.
        while around[-1] != program[scope][PARENT]:
            around.pop()
            lines.append("}")
        around.append(scope)
        lines.append("{")
        lines.extend(own_lines(program, naming, scope))
    lines.extend(["}"] * (len(around) - 1))
    return "\n".join(lines)


def own_lines(program, naming, scope):
    """The list of the lines of a scope, without those of the scopes inside it."""
    lets = ["let " + naming[declaration] for declaration in declarations_of(program, scope)]
    return lets + ["use " + naming[declaration] for declaration in program[scope][USES]]

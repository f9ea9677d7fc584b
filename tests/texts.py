"""Texts of programs: other texts of the same program, and a second way to read them."""

import re

from tests import definitions

LINE = re.compile(r"(let|use) [a-z]{1,8}|\{|\}")


def lines_in(text):
    return text.split("\n") if text else []


def scopes_at(lines):
    """For each line, the number of the scope that it stands in or begins; None from a `}` in scope 0 on."""
    around, begun, found = [0], 0, []
    for line in lines:
        if line == "{":
            begun += 1
            around.append(begun)
        found.append(around[-1] if around else None)
        if line == "}" and around:
            around.pop()
        if not around:
            return found[:-1] + [None] * (len(lines) - len(found) + 1)
    return found


def bad_lines(lines):
    """The numbers of lines that cannot stand where they do, at least the first one of each kind."""
    scopes = scopes_at(lines)
    lets = [at for at, line in enumerate(lines) if line.startswith("let ")]
    begins = [at for at, line in enumerate(lines) if line == "{"]
    yield from [at for at, line in enumerate(lines) if not LINE.fullmatch(line)]
    yield from [at for at, scope in enumerate(scopes) if scope is None]
    yield from [at for at in lets if any(
        lines[before] == lines[at] and scopes[before] == scopes[at] for before in lets if before < at)]
    yield from lets[60:]
    yield from begins[39:]


def read(text):
    """The program and the naming of a text, or the number of the line that is wrong."""
    lines = lines_in(text)
    bad = list(bad_lines(lines))
    if bad:
        return min(bad)
    if lines.count("{") != lines.count("}"):
        return len(lines)
    scopes = scopes_at(lines)
    parents = [-1]
    for at, line in enumerate(lines):
        if line == "{":
            parents.append(scopes_at(lines[:at] + ["use a"])[-1])
    lets = sorted((scope, at) for at, (line, scope) in enumerate(zip(lines, scopes)) if line.startswith("let "))
    naming = tuple(lines[at][4:] for _, at in lets)
    counts = [len([at for home, at in lets if home == scope]) for scope in range(len(parents))]
    bare = tuple((parent, count, ()) for parent, count in zip(parents, counts))
    uses = [set() for _ in parents]
    for at, line in enumerate(lines):
        if line.startswith("use "):
            found = definitions.looked_up(bare, naming, scopes[at], line[4:])
            if found is None:
                return at
            uses[scopes[at]].add(found)
    return tuple(row[:2] + (tuple(sorted(used)),) for row, used in zip(bare, uses)), naming


def shuffled(source, program, naming, repeats=2):
    """A text of the program and the naming in which lines are in another sequence, and uses stand up to so many times.

    The declarations of a scope keep their sequence among themselves, and so do the scopes directly inside it.
    """
    homes = definitions.homes(program)

    def lines_of(scope):
        lets = [["let " + naming[number]] for number, home in enumerate(homes) if home == scope]
        uses = [
            ["use " + naming[number]] for number in program[scope][2] for _ in range(source.randrange(1, repeats + 1))]
        source.shuffle(uses)
        inner = [["{", *lines_of(at), "}"] for at, row in enumerate(program) if row[0] == scope]
        kinds = ["let"] * len(lets) + ["use"] * len(uses) + ["inner"] * len(inner)
        source.shuffle(kinds)
        waiting = {"let": iter(lets), "use": iter(uses), "inner": iter(inner)}
        return [line for kind in kinds for line in next(waiting[kind])]

    return "\n".join(lines_of(0))

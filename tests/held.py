"""Programs and namings for pools that have no more names than the width."""

from tests import definitions
from tests.samples import HUNDRED

# Declarations 0 and 1 cannot exchange their names if the pool has three of them, because each conflicts with a frozen
# declaration; the frozen ones are all others.
HELD = ((-1, 2, ()), (0, 1, (0,)), (1, 2, (2,)), (0, 1, (1,)), (3, 2, (5,)))
HELD_NAMING = ("a", "b", "c", "a", "b", "c", "a", "b")
HELD_GOAL = ("b", "a", "c", "a", "b", "c", "a", "b")
# The same, with declaration 8 in their part, which has two names to choose from.
LOOSER = HELD + ((0, 1, (0,)),)

# Declarations 0 to 2 share three names of four, because each conflicts with a frozen declaration that has the fourth.
THREE = ((-1, 3, ()),) + sum([((0, 1, (at,)), (2 * at + 1, 3, (3 + 4 * at,))) for at in range(3)], ())
THREE_NAMING = ("a", "b", "c") + ("d", "a", "b", "c") * 3
# The part (5, 6, 7) is not free, and has one name to spare: it has 24 reachable namings.
SPACIOUS = ((-1, 1, ()), (0, 4, (0,)), (0, 3, (0,)))
SPACIOUS_NAMING = ("a", "b", "c", "d", "e", "b", "c", "d")
FIVE = ("a", "b", "c", "d", "e")


def held_pair(names, held):
    """A program with a part of two conflicting declarations, the first and the last one, and a naming of it.

    Of so many names, so many frozen declarations conflict with the first one, so that it has the others to choose from.
    The last one can have each name but that of the first one.
    """
    program = (
        (-1, 1, ()), (0, held, (0,)), (1, names - held, tuple(range(1, held + 1))), (0, 1, (0,)))
    return program, HUNDRED[held:held + 1] + HUNDRED[:names] + HUNDRED[:1]


# 40 * 50 and 40 * 51 reachable namings.
MANY, MANY_NAMING = held_pair(51, 11)
MORE, MORE_NAMING = held_pair(52, 12)


def with_names(naming, names):
    """The naming in which the declarations of a dict have other names."""
    return tuple(names.get(number, name) for number, name in enumerate(naming))


def grown(source, program, many):
    """The program with so many further scopes behind the others, each with up to two declarations and uses."""
    for _ in range(many):
        around = definitions.enclosing(program)
        parent = source.choice(sorted(around[-1]))
        visible = [number for number, home in enumerate(definitions.homes(program)) if home in around[parent]]
        uses = source.sample(visible, min(len(visible), source.randrange(3)))
        program += ((parent, source.randrange(3), tuple(sorted(uses))),)
    return program


def exchanged(source, program, naming, pool, times):
    """Another valid naming in which all frozen declarations keep their names, or the same one.

    So many times, two names are exchanged within a set of declarations with these names that no conflict leaves.
    """
    conflicts = definitions.conflicts(program)
    frozen = definitions.frozen(program, len(pool))
    loose = [number for number in range(len(naming)) if number not in frozen]
    for _ in range(times if loose else 0):
        found = [source.choice(loose)]
        names = (naming[found[0]], source.choice(pool))
        for number in found:
            found += [other for other, name in enumerate(naming)
                      if name in names and other not in found and (number, other) in conflicts]
        if not set(found) & set(frozen):
            naming = tuple(
                names[1 - names.index(name)] if number in found else name for number, name in enumerate(naming))
    return naming

"""Programs, namings and values that several tests use."""

import itertools
import random

from tests import definitions

# The program of most examples of the document.
EXAMPLE = ((-1, 2, (1,)), (0, 1, (0, 2)), (0, 1, (3,)))

SINGLE = ((-1, 1, ()),)
BARE = ((-1, 0, ()),)
CHAIN = ((-1, 1, ()),) + tuple((scope - 1, 1, (0, scope)) for scope in range(1, 40))
BESIDE = ((-1, 1, (0,)),) + tuple((0, 1, (0, scope)) for scope in range(1, 40))
BARE_CHAIN = tuple((scope - 1, 0, ()) for scope in range(40))
CROWDED = ((-1, 60, tuple(range(60))),)
# Scopes without declarations before, between and behind scopes that have some.
GAPS = ((-1, 0, ()), (0, 2, (0, 1)), (1, 0, (1,)), (0, 0, ()), (3, 0, ()), (4, 3, (2, 4)), (3, 0, ()), (0, 0, ()))
# 40 scopes and 60 declarations, both limits at once.
LARGEST = tuple((scope - 1, 2 if scope < 20 else 1, (0,)) for scope in range(40))

# A declaration of scope 0 that only the innermost of 40 scopes uses.
FAR = ((-1, 1, ()),) + tuple((scope - 1, 0, ()) for scope in range(1, 39)) + ((38, 0, (0,)),)
# 40 scopes inside one another, whose declarations are all used in the innermost one.
FUNNEL = tuple((scope - 1, 1, ()) for scope in range(39)) + ((38, 1, tuple(range(40))),)
# 40 scopes inside one another, of which each uses only the declaration of the scope around it.
LINKS = ((-1, 1, ()),) + tuple((scope - 1, 1, (scope - 1,)) for scope in range(1, 40))

PROGRAMS = (EXAMPLE, SINGLE, BARE, CHAIN, BESIDE, BARE_CHAIN, CROWDED, GAPS, LARGEST, FAR, FUNNEL, LINKS)

# Namings of EXAMPLE that are not valid, or have names that are not a, b or c, and values that are no namings of it.
WRONG_NAMINGS = (
    (), ("a",), ("a", "b", "b"), ("a", "b", "b", "a", "a"), ["a", "b", "b", "a"], ("a", "b", "b", "d"),
    ("a", "a", "b", "b"), ("a", "b", "a", "b"), ("a", "b", "b", "A"), ("a", "b", "b", None), ("a", "b", "b", ["a"]),
    "abba", 0, -1)

LETTERS = "abcdefghijklmnopqrstuvwxyz"
HUNDRED = tuple(LETTERS[at // 26] + LETTERS[at % 26] for at in range(100))


def subsets(values):
    return [chosen for many in range(len(values) + 1) for chosen in itertools.combinations(values, many)]


def programs_of_shape(parents, counts):
    """All programs with these parents and counts: one for each choice of the uses."""
    bare = tuple((parent, count, ()) for parent, count in zip(parents, counts))
    around = definitions.enclosing(bare)
    visible = [
        [number for number, home in enumerate(definitions.homes(bare)) if home in around[scope]]
        for scope in range(len(bare))]
    for uses in itertools.product(*(subsets(numbers) for numbers in visible)):
        yield tuple((parent, count, used) for parent, count, used in zip(parents, counts, uses))


def small_programs(most):
    """All programs of one to three scopes with so many declarations at most."""
    for parents in ((-1,), (-1, 0), (-1, 0, 0), (-1, 0, 1)):
        for counts in itertools.product(range(most + 1), repeat=len(parents)):
            if sum(counts) <= most:
                yield from programs_of_shape(parents, counts)


def random_program(source, scopes, declarations, chance):
    """A program of this size in which each scope uses what it can see with a chance of so many in a hundred."""
    # Of how many scopes around the last one the next parent is chosen: with few of them, the program is deep.
    near = source.choice((1, 2, 3, scopes))
    parents = [-1]
    around = [[0]]
    for scope in range(1, scopes):
        parents.append(source.choice(around[-1][:near]))
        around.append([scope] + around[parents[-1]])
    homes = sorted(source.choices(range(scopes), k=declarations))
    rows = []
    for scope in range(scopes):
        visible = [number for number, home in enumerate(homes) if home in around[scope]]
        uses = tuple(number for number in visible if source.randrange(100) < chance)
        rows.append((parents[scope], homes.count(scope), uses))
    return tuple(rows)


def random_programs(seed, many, scopes=40, declarations=60):
    """So many programs of sizes up to these, beside the largest ones."""
    source = random.Random(seed)
    for at in range(many):
        largest = at % 5 == 0
        yield random_program(
            source, scopes if largest else source.randrange(1, scopes + 1),
            declarations if largest else source.randrange(declarations + 1), source.choice((2, 5, 15, 40)))


def random_valid_naming(source, program, pool, first=()):
    """A valid naming with names of the pool, which has at least as many as the width, that begins with these names."""
    conflicts = definitions.conflicts(program)
    naming = list(first)
    for number in range(len(first), len(definitions.homes(program))):
        taken = {naming[other] for other in range(number) if (other, number) in conflicts}
        naming.append(source.choice([name for name in pool if name not in taken]))
    return tuple(naming)


def beside(*programs):
    """The program that has the scopes 0 of these programs directly inside its own scope 0."""
    rows = [(-1, 0, ())]
    declarations = 0
    for program in programs:
        first = len(rows)
        for parent, count, uses in program:
            rows.append((0 if parent < 0 else parent + first, count, tuple(use + declarations for use in uses)))
        declarations += definitions.count(program)
    return tuple(rows)


class Unfriendly:
    """An object that cannot be compared, counted, tested or used as a key."""

    def __eq__(self, other):
        raise RuntimeError("compared")

    def __hash__(self):
        raise RuntimeError("used as a key")

    def __bool__(self):
        raise RuntimeError("tested")

    def __len__(self):
        raise RuntimeError("counted")

    def __iter__(self):
        raise RuntimeError("iterated")


class Agreeable:
    """An object that claims to be equal to everything."""

    def __eq__(self, other):
        return True

    __hash__ = None


def nested(wrap, levels=30):
    """A value that is nested so many levels deep."""
    value = wrap(0)
    for _ in range(levels - 1):
        value = wrap(value)
    return value


def any_values():
    """Values of many kinds, made anew for each call, that are no program, scope, name, pool, naming, number or rename.

    Integers and the empty tuple are left out, because they are right in some places.
    """
    return [
        None, True, False, ..., NotImplemented,
        "", "A", "1", "a1", "0", " ", "a b", "a\n", "abcdefghi", "\u00e4", "\ud800",
        b"", b"a", bytearray(b"a"), [], [0], ["a"], [EXAMPLE], [[-1, 0, []]], {}, {"a": 1}, {0: "a"},
        set(), {0}, {"a"}, frozenset(), frozenset({0}), range(3), slice(0, 1),
        (None,), (True,), ([],), ({},), ({0},), ((),), (((),),), ("a", "a"), ("a", 0), ("a", ["b"]), (0, 0), (0, "A"),
        (5, 0, ()), ((-1, 0, []),), ([-1, 0, ()],), ((-1, 0, (Unfriendly(),)),), (Unfriendly(),), (Agreeable(),),
        ((Unfriendly(), Unfriendly(), Unfriendly()),), ((Agreeable(), Agreeable(), Agreeable()),),
        nested(lambda value: [value]), nested(lambda value: (value,)), nested(lambda value: {"a": value}),
        nested(lambda value: (-1, 0, value)), nested(lambda value: ((-1, 0, value),), 15),
        object(), Unfriendly(), Agreeable(), Unfriendly, int, len, nested, ValueError("a"), iter([]), (n for n in "a"),
    ]


def wrong_numbers(count):
    """Values that are not one of the integers from 0 up to, but not including, the count."""
    return any_values() + [count, count + 1, -1, -count - 1, 10 ** 40, -(10 ** 40), (), (0,), [count - 1], str(count - 1)]

"""Programs and values that several tests use."""

# The program of most examples of the document.
EXAMPLE = ((-1, 2, (1,)), (0, 1, (0, 2)), (0, 1, (3,)))

SINGLE = ((-1, 1, ()),)
BARE = ((-1, 0, ()),)
CHAIN = ((-1, 1, ()),) + tuple((scope - 1, 1, (0, scope)) for scope in range(1, 40))
BESIDE = ((-1, 1, (0,)),) + tuple((0, 1, (0, scope)) for scope in range(1, 40))
BARE_CHAIN = tuple((scope - 1, 0, ()) for scope in range(40))
CROWDED = ((-1, 60, tuple(range(60))),)
# Scopes without declarations before, between and behind scopes that have some.
GAPS = ((-1, 0, ()), (0, 2, (0, 1)), (1, 0, (1,)), (0, 0, ()), (3, 0, ()), (4, 3, (2, 4)), (3, 0, ()), (0, 0, ()))
# 40 scopes and 60 declarations, both limits at once.
LARGEST = tuple((scope - 1, 2 if scope < 20 else 1, (0,)) for scope in range(40))

PROGRAMS = (EXAMPLE, SINGLE, BARE, CHAIN, BESIDE, BARE_CHAIN, CROWDED, GAPS, LARGEST)


class Unfriendly:
    """An object that cannot be compared, counted, tested or used as a key."""

    def __eq__(self, other):
        raise RuntimeError("compared")

    def __hash__(self):
        raise RuntimeError("used as a key")

    def __bool__(self):
        raise RuntimeError("tested")

    def __len__(self):
        raise RuntimeError("counted")

    def __iter__(self):
        raise RuntimeError("iterated")


class Agreeable:
    """An object that claims to be equal to everything."""

    def __eq__(self, other):
        return True

    __hash__ = None


def nested(wrap, levels=30):
    """A value that is nested so many levels deep."""
    value = wrap(0)
    for _ in range(levels - 1):
        value = wrap(value)
    return value


def any_values():
    """Values of many kinds, made anew for each call, that are no program, scope, name, pool, naming or number.

    Integers and the empty tuple are left out, because they are right in some places.
    """
    return [
        None, True, False, ..., NotImplemented,
        "", "A", "1", "a1", "0", " ", "a b", "a\n", "abcdefghi", "\u00e4", "\ud800",
        b"", b"a", bytearray(b"a"), [], [0], ["a"], [EXAMPLE], [[-1, 0, []]], {}, {"a": 1}, {0: "a"},
        set(), {0}, {"a"}, frozenset(), frozenset({0}), range(3), slice(0, 1),
        (None,), (True,), ([],), ({},), ({0},), ((),), (((),),), ("a", "a"), ("a", 0), ("a", ["b"]), (0, 0), (0, "a"),
        (5, 0, ()), ((-1, 0, []),), ([-1, 0, ()],), ((-1, 0, (Unfriendly(),)),), (Unfriendly(),), (Agreeable(),),
        ((Unfriendly(), Unfriendly(), Unfriendly()),), ((Agreeable(), Agreeable(), Agreeable()),),
        nested(lambda value: [value]), nested(lambda value: (value,)), nested(lambda value: {"a": value}),
        nested(lambda value: (-1, 0, value)), nested(lambda value: ((-1, 0, value),), 15),
        object(), Unfriendly(), Agreeable(), Unfriendly, int, len, nested, ValueError("a"), iter([]), (n for n in "a"),
    ]


def wrong_numbers(count):
    """Values that are not one of the integers from 0 up to, but not including, the count."""
    return any_values() + [count, count + 1, -1, -count - 1, 10 ** 40, -(10 ** 40), (), (0,), [count - 1], str(count - 1)]

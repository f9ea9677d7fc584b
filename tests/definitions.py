"""What the document defines, computed straight from its words and without the package."""

import functools
import itertools


@functools.lru_cache(maxsize=1000)
def homes(program):
    return tuple(scope for scope, row in enumerate(program) for _ in range(row[1]))


def count(program):
    """The number of declarations."""
    return sum(row[1] for row in program)


@functools.lru_cache(maxsize=1000)
def enclosing(program):
    """For each scope, the set of the scopes that enclose it."""
    found = []
    for scope, row in enumerate(program):
        found.append({scope} | (found[row[0]] if scope else set()))
    return found


def looked_up(program, naming, scope, name):
    found = [number for number, home in enumerate(homes(program)) if home == scope and naming[number] == name]
    if found:
        return min(found)
    return None if scope == 0 else looked_up(program, naming, program[scope][0], name)


def problems(program, naming):
    found = []
    for scope, (_, _, uses) in enumerate(program):
        own = [number for number, home in enumerate(homes(program)) if home == scope]
        for first, second in itertools.combinations(own, 2):
            if naming[first] == naming[second]:
                found.append(("duplicate", scope, first, second))
        for use in uses:
            other = looked_up(program, naming, scope, naming[use])
            if other != use:
                found.append(("captured", scope, use, other))
    return tuple(found)


def valid(program, naming):
    return problems(program, naming) == ()


def region(program, declaration):
    home = homes(program)[declaration]
    around = enclosing(program)
    users = [scope for scope, row in enumerate(program) if declaration in row[2]]
    return {home} | {
        scope for scope in range(len(program))
        if home in around[scope] and any(scope in around[user] for user in users)}


@functools.lru_cache(maxsize=1000)
def regions(program):
    return tuple(region(program, number) for number in range(len(homes(program))))


def needed(program, scope):
    return tuple(number for number, found in enumerate(regions(program)) if scope in found)


def loads(program):
    return [len(needed(program, scope)) for scope in range(len(program))]


def width(program):
    return max(loads(program))


@functools.lru_cache(maxsize=1000)
def conflicts(program):
    """The set of all pairs of conflicting declarations, each pair in both orders."""
    found = regions(program)
    return {(one, other) for one, other in itertools.permutations(range(len(found)), 2) if found[one] & found[other]}


def height(program):
    return max(len(found) for found in enclosing(program))


def renamed(naming, declaration, name):
    return naming[:declaration] + (name,) + naming[declaration + 1:]


def safe(program, naming, declaration, name):
    return naming[declaration] != name and valid(program, renamed(naming, declaration, name))


def valid_namings(program, pool):
    """All valid namings with names of the pool."""
    return [naming for naming in itertools.product(pool, repeat=count(program)) if valid(program, naming)]


def full(program, many):
    """The full scopes for a pool of so many names."""
    return tuple(scope for scope, load in enumerate(loads(program)) if load == many)


def frozen(program, many):
    return tuple(sorted({number for scope in full(program, many) for number in needed(program, scope)}))


def parts(program, many):
    """The parts, joined from single declarations, one pair of conflicting ones after the other."""
    found = [{number} for number in range(count(program)) if number not in frozen(program, many)]
    for pair in conflicts(program):
        touched = [part for part in found if part & set(pair)]
        if len(touched) == 2:
            found = [part for part in found if part not in touched] + [touched[0] | touched[1]]
    return tuple(sorted(tuple(sorted(part)) for part in found))


def free(program, part, many):
    return not any((number, other) in conflicts(program) for number in part for other in frozen(program, many))


def named(naming, part):
    """The naming of the part."""
    return tuple(naming[number] for number in part)


def distances(program, naming, numbers, pool):
    """For each naming that renames of these declarations can lead to, the fewest that do, by trying all of them."""
    found = {naming: 0}
    newest = [naming]
    while newest:
        later = [
            renamed(old, number, name) for old in newest for number in numbers for name in pool
            if safe(program, old, number, name)]
        steps = found[newest[0]] + 1
        newest = [new for new in dict.fromkeys(later) if new not in found]
        found.update((new, steps) for new in newest)
    return found


def reachable(program, naming, part, pool):
    """The ascending tuple of the reachable namings of the part."""
    return tuple(sorted(named(found, part) for found in distances(program, naming, part, pool)))

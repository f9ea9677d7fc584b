"""Routes between two namings with any pool: a plan, or what shows that there is none."""

from renamesteps.errors import TooMany
from renamesteps.names import is_tuple_of_names
from renamesteps.parts import frozen_declarations, full_scopes, is_free, parts_of
from renamesteps.plans import find_plan, shows_plan
from renamesteps.programs import PARENT, USES, homes_of, is_ascending, is_number_below
from renamesteps.regions import all_needed, conflict_lists
from renamesteps.validity import check_naming


def naming_of_part(naming, part):
    """The tuple of the names of the declarations of the part."""
    return tuple([naming[declaration] for declaration in part])


def choices_in(program, naming, part, pool):
    """For each declaration of the part, the pair of the names that are open to it and of the places that it watches.

    Open are the names of the pool that no conflicting declaration outside of the part has. The places are those of
    the conflicting declarations in the part, and its own one.
    """
    conflicts = conflict_lists(program)
    choices = []
    for declaration in part:
        taken = [naming[other] for other in conflicts[declaration] if other not in part]
        near = [place for place, other in enumerate(part) if other == declaration or other in conflicts[declaration]]
        choices.append(([name for name in pool if name not in taken], near))
    return choices


def next_namings(present, choices):
    """The list of the namings of a part to which one safe rename leads."""
    found = []
    for place, (names, near) in enumerate(choices):
        taken = {present[other]: True for other in near}
        found.extend([present[:place] + (name,) + present[place + 1:] for name in names if name not in taken])
    return found


def ways_within(program, naming, part, pool, most):
    """For each reachable naming of the part, the one before it on a shortest way; None for the present one."""
    choices = choices_in(program, naming, part, pool)
    waiting = [naming_of_part(naming, part)]
    before = {waiting[0]: None}
    at = 0
    while at < len(waiting):
        present = waiting[at]
        for later in next_namings(present, choices):
            if later not in before:
                before[later] = present
                waiting.append(later)
        if len(waiting) > most:
            raise TooMany(most)
        at += 1
    return before


def way_to(before, part, last):
    """The plan that leads to a naming of the part, for what ways_within returned."""
    plan = []
    later = last
    while before[later] is not None:
        present = before[later]
        for place, declaration in enumerate(part):
            if present[place] != later[place]:
                plan.append((declaration, later[place]))
        later = present
    return tuple(plan[::-1])


def reachable_namings(program, naming, part, pool, *, most=2000):
    """The ascending tuple of all namings of the part that renames of its declarations can lead to."""
    return tuple(sorted(ways_within(program, naming, part, pool, most)))


def different_parts(program, start, goal, pool):
    """The list of the parts in which both namings differ, in ascending order."""
    return [part for part in parts_of(program, pool) if naming_of_part(start, part) != naming_of_part(goal, part)]


def different_frozen(program, start, goal, pool):
    """The list of the frozen declarations that have different names in both namings, in ascending order."""
    return [
        declaration for declaration in frozen_declarations(program, pool) if start[declaration] != goal[declaration]]


def full_scopes_with(program, declaration, pool):
    """The list of the full scopes in which the declaration is needed, in ascending order."""
    needed = all_needed(program)
    return [scope for scope in full_scopes(program, pool) if declaration in needed[scope]]


def find_route(program, start, goal, pool, *, most=2000):
    """A plan from start to goal, or a frozen declaration or a closed set of namings that shows that there is none."""
    check_naming(program, start, pool)
    check_naming(program, goal, pool)
    stuck = different_frozen(program, start, goal, pool)
    if stuck:
        return "frozen", stuck[0], full_scopes_with(program, stuck[0], pool)[0]
    plan = ()
    for part in different_parts(program, start, goal, pool):
        if is_free(program, part, pool):
            plan += free_part_plan(program, start, goal, part, pool)
            continue
        before = ways_within(program, start, part, pool, most)
        wanted = naming_of_part(goal, part)
        if wanted not in before:
            return "closed", part, tuple(sorted(before))
        plan += way_to(before, part, wanted)
    return "plan", plan


def free_part_plan(program, start, goal, part, pool):
    """The plan from start to goal within a free part.

    No scope in which a declaration of the part is needed is full. So the part alone needs fewer names than the pool
    has, and its declarations conflict with no others.
    """
    plan = find_plan(
        program_of_part(program, part), naming_of_part(start, part), naming_of_part(goal, part), pool)
    return tuple([(part[place], name) for place, name in plan])


def program_of_part(program, part):
    """The program with the declarations of the part only, numbered by their places in it."""
    homes = [homes_of(program)[declaration] for declaration in part]
    return tuple([
        (row[PARENT], homes.count(scope), tuple([place for place, used in enumerate(part) if used in row[USES]]))
        for scope, row in enumerate(program)])


def shows_route(program, start, goal, pool, value):
    """Whether any value is a result for these namings that find_route might return."""
    if not isinstance(value, tuple) or len(value) not in (2, 3) or not isinstance(value[0], str):
        return False
    if len(value) == 2:
        return value[0] == "plan" and shows_plan(program, start, goal, pool, value[1])
    if value[0] == "frozen":
        return shows_frozen(program, start, goal, pool, value[1], value[2])
    return value[0] == "closed" and shows_closed(program, start, goal, pool, value[1], value[2])


def shows_frozen(program, start, goal, pool, declaration, scope):
    """Whether any two values are a declaration with different names and a full scope in which it is needed."""
    if not is_number_below(declaration, len(start)) or not is_number_below(scope, len(program)):
        return False
    return start[declaration] != goal[declaration] and scope in full_scopes_with(program, declaration, pool)


def shows_closed(program, start, goal, pool, part, namings):
    """Whether any two values are a part and a closed set of its namings with that of start and without that of goal."""
    # Without the first test, a part with True in the place of 1 would equal one of the parts.
    if not is_ascending(part) or part not in parts_of(program, pool):
        return False
    choices = choices_in(program, start, part, pool)
    if not isinstance(namings, tuple) or not all([is_naming_within(choices, naming) for naming in namings]):
        return False
    if not all([namings[at] < namings[at + 1] for at in range(len(namings) - 1)]):
        return False
    members = {naming: True for naming in namings}
    if naming_of_part(start, part) not in members or naming_of_part(goal, part) in members:
        return False
    return all([later in members for naming in namings for later in next_namings(naming, choices)])


def is_naming_within(choices, value):
    """Whether any value is a naming of a part, with names of the pool, that is valid together with the other names."""
    if not is_tuple_of_names(value) or len(value) != len(choices):
        return False
    for place, (names, near) in enumerate(choices):
        if value[place] not in names or value[place] in [value[other] for other in near if other != place]:
            return False
    return True

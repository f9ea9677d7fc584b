"""The fewest names that a program needs."""

from renamesteps.errors import TooFewNames
from renamesteps.regions import needed_in, smaller_conflicts, width_of
from renamesteps.validity import is_valid


def smallest_numbers(program):
    """For each declaration, the smallest number that no conflicting declaration with a smaller number has.

    These are the numbers from 0 up to, but not including, the width: the conflicting declarations with smaller numbers
    are all needed in the home of the declaration, so there are fewer of them than the width.
    """
    numbers = []
    for smaller in smaller_conflicts(program):
        taken = [numbers[other] for other in smaller]
        number = 0
        while number in taken:
            number += 1
        numbers.append(number)
    return tuple(numbers)


def smallest_naming(program, pool):
    """The naming that gives each declaration the first name of the pool that is left to it."""
    width = width_of(program)
    if len(pool) < width:
        raise TooFewNames(width)
    return tuple([pool[number] for number in smallest_numbers(program)])


def check_room(program, pool):
    """Raises TooFewNames if the pool has no more names than the width."""
    needed = width_of(program) + 1
    if len(pool) < needed:
        raise TooFewNames(needed)


def shows_fewest(program, naming, scope):
    """Whether the naming is valid and has exactly as many different names as the load of the scope."""
    load = len(needed_in(program, scope))
    return is_valid(program, naming) and len(set(naming)) == load

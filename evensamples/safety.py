"""Safe periods: those with which a sampler sees each line with its share, whatever the start is.

A period is safe if and only if no blocker divides it. All blockers divide the length,
so the safe periods of one length come again with every further length.
"""

from evensamples.classes import is_even
from evensamples.errors import TooLarge
from evensamples.integers import common_divisor, reduced
from evensamples.programs import check_length, length

GREATEST_DIVISOR = 2000


def is_safe(program, period):
    """Return whether the period is safe; raise TooLarge if it has too large a divisor in common with the length."""
    return is_even(program, shared_divisor(program, period))


def blockers(program):
    """Return the ascending tuple of all blockers; raise TooLong above 2000 ticks."""
    check_length(program)
    found = []
    for divisor in divisors(length(program)):
        # What a smaller blocker divides is not even either, but no blocker.
        if none_divides(found, divisor) and not is_even(program, divisor):
            found.append(divisor)
    return tuple(found)


def is_blocker(program, value):
    """Return, for any value, whether it is a blocker; raise TooLong above 2000 ticks."""
    # True and False, which equal 1 and 0, are not found: each blocker is above 1.
    return value in blockers(program)


def next_safe(program, bound):
    """Return the least safe period that is at least bound; raise TooLong above 2000 ticks."""
    found = blockers(program)
    period = bound
    # This ends within one length: no blocker divides a multiple of the length plus 1.
    while not none_divides(found, period):
        period += 1
    return period


def count_safe(program, most):
    """Return how many safe periods are at most most; raise TooLong above 2000 ticks."""
    row = first_safe(program)
    turns, rest = divmod(most, length(program))
    return turns * len(row) + len([period for period in row if period <= rest])


def nth_safe(program, number):
    """Return the safe period with this number, from 0, in ascending order; raise TooLong above 2000 ticks."""
    row = first_safe(program)
    turns, at = divmod(number, len(row))
    return turns * length(program) + row[at]


def density(program):
    """Return the share of the safe periods among all periods, as a fraction; raise TooLong above 2000 ticks."""
    return reduced(len(first_safe(program)), length(program))


def shared_divisor(program, period):
    """Return the greatest common divisor of period and length; raise TooLarge if it is above 2000."""
    divisor = common_divisor(period, length(program))
    if divisor > GREATEST_DIVISOR:
        raise TooLarge(divisor)
    return divisor


def divisors(number):
    """Return the list of all divisors of a number from 1, ascending."""
    return [divisor for divisor in range(1, number + 1) if number % divisor == 0]


def none_divides(found, period):
    """Return whether none of the blockers found divides the period."""
    return all([period % blocker != 0 for blocker in found])


def first_safe(program):
    """Return the list of the safe periods from 1 to the length, ascending; raise TooLong above 2000 ticks."""
    found = blockers(program)
    return [period for period in range(1, length(program) + 1) if none_divides(found, period)]

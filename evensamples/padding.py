"""Idle ticks at the end of a program, with which a period becomes safe."""

from evensamples.classes import is_even
from evensamples.integers import common_divisor
from evensamples.programs import length


def padded(program, ticks):
    """Return the program with so many ticks of the line idle added at the end."""
    if ticks == 0:
        return program
    return program + (("line", "idle", ticks),)


def least_padding(program, period):
    """Return the least number of ticks with which the period is safe for the program padded."""
    size = length(program)
    ticks = 0
    # This ends below the period: so many lengths one after the other include one without a common divisor.
    while not is_even(padded(program, ticks), common_divisor(period, size + ticks)):
        ticks += 1
    return ticks

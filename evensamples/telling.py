"""Which samplers can tell two programs of equal length apart."""

from evensamples.classes import class_counts
from evensamples.errors import OtherLength
from evensamples.programs import check_length, length, lines_of
from evensamples.safety import divisors, none_divides, shared_divisor


def look_alike(one, other, period):
    """Return whether the programs look alike to the period; raise OtherLength or TooLarge."""
    return told_apart(one, other, period) is None


def told_apart(one, other, period):
    """Return (start, name), the least ones for which the seen shares differ, or None; raise OtherLength or TooLarge."""
    check_same_length(one, other)
    return first_difference(one, other, shared_divisor(one, period))


def telling(one, other):
    """Return the ascending tuple of the least divisors of the length that tell the programs apart.

    Raise OtherLength, or TooLong above 2000 ticks.
    """
    check_same_length(one, other)
    check_length(one)
    found = []
    for divisor in divisors(length(one)):
        # What a smaller one divides tells them apart, too, but is not wanted.
        if none_divides(found, divisor) and first_difference(one, other, divisor) is not None:
            found.append(divisor)
    return tuple(found)


def check_same_length(one, other):
    """Raise OtherLength if the programs differ in length."""
    size = length(other)
    if size != length(one):
        raise OtherLength(size)


def first_difference(one, other, modulus):
    """Return (place, name), the least class and for it the least name with unequal numbers of ticks, or None."""
    counts = class_counts(one, modulus)
    other_counts = class_counts(other, modulus)
    nothing = [0] * modulus
    names = lines_of(one + other)
    columns = [(name, counts.get(name, nothing), other_counts.get(name, nothing)) for name in names]
    for place in range(modulus):
        for name, column, other_column in columns:
            if column[place] != other_column[place]:
                return place, name
    return None

"""How far what a sampler sees of a line is from the share of this line."""

from evensamples.classes import class_counts
from evensamples.integers import reduced
from evensamples.programs import check_line, length, ticks_of
from evensamples.safety import shared_divisor


def share(program, name):
    """Return the share of a line as a fraction; raise NoLine."""
    check_line(program, name)
    return reduced(ticks_of(program, name), length(program))


def seen_share(program, period, start, name):
    """Return the seen share of a line as a fraction; raise NoLine or TooLarge."""
    column = seen_column(program, period, name)
    return reduced(column[start % len(column)], length(program) // len(column))


def most_biased(program, period, name):
    """Return (start, error): the least start at which the seen share differs most from the share, and by how much.

    Raise NoLine or TooLarge.
    """
    column = seen_column(program, period, name)
    total = sum(column)
    # The differences of both shares times the length, which are whole numbers.
    gaps = [count * len(column) - total for count in column]
    sizes = [abs(gap) for gap in gaps]
    start = sizes.index(max(sizes))
    return start, reduced(gaps[start], length(program))


def seen_column(program, period, name):
    """Return for each class that looks of this period may see the ticks of a line in it; raise NoLine or TooLarge."""
    check_line(program, name)
    return class_counts(program, shared_divisor(program, period))[name]

"""How the ticks of a program are spread over the classes modulo a number."""

from evensamples.integers import common_divisor, is_integer_within
from evensamples.programs import length, lines_of


def class_table(program, modulus):
    """Return one row for each class: the numbers of ticks of the lines in it, in the order of the lines."""
    counts = class_counts(program, modulus)
    names = lines_of(program)
    return tuple([tuple([counts[name][place] for name in names]) for place in range(modulus)])


def is_even(program, modulus):
    """Return whether each line has the same number of ticks in all classes."""
    return uneven_pair(program, modulus) is None


def uneven_pair(program, modulus):
    """Return (name, low, high), the line having fewer ticks in class low than in class high, or None."""
    counts = class_counts(program, modulus)
    for name in lines_of(program):
        column = counts[name]
        least, most = min(column), max(column)
        if least < most:
            return name, column.index(least), column.index(most)
    return None


def shows_uneven(program, modulus, value):
    """Return, for any value, whether it is a tuple as uneven_pair returns them."""
    if not isinstance(value, tuple) or len(value) != 3:
        return False
    name, low, high = value
    if name not in lines_of(program):
        return False
    if not is_integer_within(low, 0, modulus - 1) or not is_integer_within(high, 0, modulus - 1):
        return False
    column = class_counts(program, modulus)[name]
    return column[low] < column[high]


def class_counts(program, modulus):
    """Return a dict that gives for each line the list of the numbers of its ticks in the classes."""
    counts = {name: [0] * modulus for name in lines_of(program)}
    for name, more in line_columns(program, [1] + [0] * (modulus - 1)):
        counts[name] = [one + other for one, other in zip(counts[name], more)]
    return counts


def line_columns(items, starts):
    """Return a list of (name, column), one for each line item, column giving its ticks in each class.

    starts gives for each class how often the items begin at a tick of it.
    """
    columns = []
    for item in items:
        kind, first, second = item
        if kind == "line":
            columns.append((first, repeated(starts, 1, second)))
        else:
            columns.extend(line_columns(second, repeated(starts, length(second), first)))
        starts = moved(starts, length((item,)))
    return columns


def moved(starts, ticks):
    """Return the starts, each of them moved on by a number of ticks."""
    cut = -ticks % len(starts)
    return starts[cut:] + starts[:cut]


def repeated(starts, step, times):
    """Return the starts if each of these is repeated step ticks later, again and again, times of them in all."""
    modulus = len(starts)
    apart = common_divisor(step, modulus)
    out = [0] * modulus
    for first in range(apart):
        # The steps from one class run through a cycle of classes and come back to it.
        cycle = [(first + step * at) % modulus for at in range(modulus // apart)]
        sums = window_sums([starts[place] for place in cycle], times)
        for place, total in zip(cycle, sums):
            out[place] = total
    return out


def window_sums(ring, times):
    """Return for each place of the ring the sum over it and those ahead of it, times of them in all."""
    laps, rest = divmod(times, len(ring))
    whole = laps * sum(ring)
    part = sum(ring[len(ring) - rest:])
    sums = []
    for at in range(len(ring)):
        # The window takes in this place and drops the one that is now too far back, on the other side of 0 too.
        part += ring[at] - ring[at - rest]
        sums.append(whole + part)
    return sums

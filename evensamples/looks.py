"""What a sampler with a short period sees of a program."""

from evensamples.classes import class_counts
from evensamples.programs import added_up, length


def look_count(program, period, start):
    """Return the number of looks of a sampler at the program."""
    left = max(length(program) - start, 0)
    return (left + period - 1) // period


def looks(program, period, start):
    """Return (name, count) for all lines, ascending: how many looks of the sampler see the line."""
    counts = class_counts(items_from(program, start), period)
    return added_up(program, [(name, column[0]) for name, column in counts.items()])


def seen(program, period, start, count):
    """Return (name, count) for all lines, ascending, of the first count looks at the program repeated."""
    stop = start + count * period
    turns = stop // length(program) + 1
    # So often repeated, the program holds all these looks; those behind them are taken off again.
    enough = (("loop", turns, program),)
    behind = [(name, -many) for name, many in looks(enough, period, stop)]
    return added_up(program, list(looks(enough, period, start)) + behind)


def items_from(items, start):
    """Return items that spend the ticks of the given items from the tick start on."""
    for at, item in enumerate(items):
        size = length((item,))
        if start < size:
            return item_from(item, start) + items[at + 1:]
        start -= size
    return ()


def item_from(item, start):
    """Return the same as items_from, for one item that has more than start ticks."""
    kind, first, second = item
    if kind == "line":
        return (("line", first, second - start),)
    done, rest = divmod(start, length(second))
    rounds = first - done
    if rest == 0:
        return (("loop", rounds, second),)
    # In the last round a loop of 0 rounds is left: no item of a program, but it spends nothing.
    return items_from(second, rest) + (("loop", rounds - 1, second),)

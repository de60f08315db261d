"""What a sampler sees of a program without loops within loops, however long its period is."""

from evensamples.errors import NotFlat
from evensamples.looks import items_from
from evensamples.programs import added_up, length


def floor_sum(count, step, shift, modulus):
    """Return the sum of (step * i + shift) // modulus for all i from 0 below count."""
    total = 0
    while count > 0:
        whole, step = divmod(step, modulus)
        total += whole * (count * (count - 1) // 2)
        whole, shift = divmod(shift, modulus)
        total += whole * count
        # The sum now counts the points of a grid below a line. Counted along the other side of the grid,
        # they give a sum of the same form, with step and modulus exchanged as in Euclid's algorithm.
        count, shift = divmod(step * count + shift, modulus)
        step, modulus = modulus, step
    return total


def flat_looks(program, period, start):
    """Return what looks returns, for a flat program and any period; raise NotFlat if it is not flat."""
    if not is_flat(program):
        raise NotFlat()
    return added_up(program, looks_from_first_tick(items_from(program, start), period))


def is_flat(program):
    """Return whether the loops of the program contain only lines."""
    inside = [item for kind, first, second in program if kind == "loop" for item in second]
    return all([kind == "line" for kind, name, ticks in inside])


def looks_from_first_tick(items, period):
    """Return a list of (name, count), one for each line of flat items: the looks that see it from tick 0 on."""
    pairs = []
    ahead = 0
    for item in items:
        rounds, lines = (1, (item,)) if item[0] == "line" else item[1:]
        size = length(lines)
        place = ahead
        for kind, name, ticks in lines:
            before = looks_before(rounds, size, place, period)
            place += ticks
            pairs.append((name, looks_before(rounds, size, place, period) - before))
        ahead += rounds * size
    return pairs


def looks_before(rounds, size, place, period):
    """Return the sum, over rounds of this size, of the number of looks ahead of the place in the round.

    Place is the number of the tick there in the first round.
    """
    return floor_sum(rounds, size, place + period - 1, period)

"""Several samplers together: with which weights they are right for all values, or which values they confuse.

A sampler adds up the values of one class of ticks. Weights exist if and only if the row of ones, which adds up
all values, is a sum of multiples of the rows of the classes. If it is not, some row of whole numbers gives
0 with every class but not with the row of ones; what is above 0 in it and what is below make a blind pair.
"""

from evensamples.integers import common_divisor, is_whole, reduced


def weights(length, samplers):
    """Return weights, or None if there are none."""
    classes = classes_of(length, samplers)
    rest = cleared(row_of_ones(length, classes), pivots_of(length, classes))
    if any(rest[:length]):
        return None
    # The parts are those of the classes in a sum that, with scale times the row of ones, gives 0.
    parts, scale = rest[length:-1], rest[-1]
    return tuple([reduced(-part, scale * modulus) for part, (modulus, place) in zip(parts, classes)])


def shows_weights(length, samplers, value):
    """Return, for any value, whether it is weights."""
    if not isinstance(value, tuple) or len(value) != len(samplers):
        return False
    if not all([is_fraction(weight) for weight in value]):
        return False
    classes = classes_of(length, samplers)
    return all([is_weighed_once(tick, classes, value) for tick in range(length)])


def blind_pair(length, samplers):
    """Return a blind pair, or None if there is none."""
    classes = classes_of(length, samplers)
    pivots = pivots_of(length, classes)
    free = first_used(cleared(row_of_ones(length, classes), pivots)[:length])
    if free is None:
        return None
    values = unseen_values(length, pivots, free)
    return tuple([max(one, 0) for one in values]), tuple([max(-one, 0) for one in values])


def shows_blind(length, samplers, value):
    """Return, for any value, whether it is a blind pair."""
    if not isinstance(value, tuple) or len(value) != 2:
        return False
    one, other = value
    if not is_values(length, one) or not is_values(length, other) or sum(one) == sum(other):
        return False
    # Both means are over the same number of ticks, so it is enough to compare the sums.
    return all([sum(one[place::modulus]) == sum(other[place::modulus])
                for modulus, place in classes_of(length, samplers)])


def is_exact_cover(samplers):
    """Return whether each integer is in exactly one of the classes of start modulo period."""
    for at, sampler in enumerate(samplers):
        if any([do_meet(sampler, earlier) for earlier in samplers[:at]]):
            return False
    # Classes that do not meet leave no gap if and only if their shares add up to 1.
    whole = 1
    for period, start in samplers:
        whole *= period
    return sum([whole // period for period, start in samplers]) == whole


def do_meet(sampler, other):
    """Return whether an integer is in the classes of both samplers."""
    period, start = sampler
    other_period, other_start = other
    return (start - other_start) % common_divisor(period, other_period) == 0


def classes_of(length, samplers):
    """Return the list of (modulus, place), one for each sampler: the class of ticks that it sees."""
    moduli = [common_divisor(period, length) for period, start in samplers]
    return [(modulus, start % modulus) for modulus, (period, start) in zip(moduli, samplers)]


def is_fraction(value):
    """Return, for any value, whether it is a fraction."""
    if not isinstance(value, tuple) or len(value) != 2:
        return False
    numerator, denominator = value
    if not is_whole(numerator) or not is_whole(denominator) or denominator < 1:
        return False
    return common_divisor(denominator, abs(numerator)) == 1


def is_weighed_once(tick, classes, fractions):
    """Return whether a value of 1 at this tick and 0 elsewhere is given its right mean by these weights."""
    # Of a class modulo g the seen mean is g times the mean over all ticks, so weight times g must add up to 1.
    numerator, denominator = 0, 1
    for (modulus, place), (above, below) in zip(classes, fractions):
        if tick % modulus == place:
            numerator, denominator = reduced(numerator * below + above * modulus * denominator, denominator * below)
    return numerator == denominator


def is_values(length, value):
    """Return, for any value, whether it is a tuple of length integers from 0."""
    if not isinstance(value, tuple) or len(value) != length:
        return False
    return all([is_whole(one) and one >= 0 for one in value])


def class_row(length, classes, at):
    """Return the row of a class: 1 for each tick in it, and behind the ticks from which rows it was made."""
    modulus, place = classes[at]
    ticks = [int(tick % modulus == place) for tick in range(length)]
    return ticks + [int(at == other) for other in range(len(classes) + 1)]


def row_of_ones(length, classes):
    """Return the row with 1 for every tick, and behind the ticks from which rows it was made: from itself."""
    return [1] * length + [0] * len(classes) + [1]


def pivots_of(length, classes):
    """Return a list of (place, row): rows with the same sums as those of the classes.

    Each row is above 0 at its place, where all other rows are 0.
    """
    pivots = []
    for at in range(len(classes)):
        row = cleared(class_row(length, classes, at), pivots)
        place = first_used(row[:length])
        if place is not None:
            row = row if row[place] > 0 else [-one for one in row]
            pivots = [(other_place, without(other, place, row)) for other_place, other in pivots]
            pivots.append((place, row))
    return pivots


def cleared(row, pivots):
    """Return a multiple of the row, made 0 at the places of all pivots."""
    for place, pivot in pivots:
        row = without(row, place, pivot)
    return row


def without(row, place, pivot):
    """Return a multiple of the row above 0, less a multiple of the pivot, so that it is 0 at the place."""
    left = [one * pivot[place] - other * row[place] for one, other in zip(row, pivot)]
    shared = 0
    for one in left:
        shared = common_divisor(shared, abs(one))
    return [one // shared for one in left]


def first_used(row):
    """Return the first place at which the row is not 0, None if there is none."""
    for place, one in enumerate(row):
        if one != 0:
            return place
    return None


def unseen_values(length, pivots, free):
    """Return the list of integers that is not 0 at the place free and 0 at all others but those of the pivots.

    With each row of the pivots it gives 0.
    """
    whole = 1
    for place, row in pivots:
        whole = whole * row[place] // common_divisor(whole, row[place])
    values = [0] * length
    values[free] = whole
    for place, row in pivots:
        values[place] = -row[free] * (whole // row[place])
    return values

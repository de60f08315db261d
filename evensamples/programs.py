"""Programs of counted loops, and the line to which each of their ticks belongs.

An item is ("line", name, ticks) or ("loop", rounds, items), a program is a tuple of items.
Nothing here takes time or room with the number of ticks, except what expanded returns.
"""

from evensamples.errors import NoLine, NoTick, TooLong
from evensamples.integers import is_integer_within

MOST_LETTERS = 8
MOST_TICKS = 10 ** 12
MOST_ROUNDS = 10 ** 18
MOST_BESIDE = 20
MOST_ITEMS = 60
MOST_DEEP = 5
LONGEST = 2000


def is_program(value):
    """Return, for any value, whether it is a program."""
    return room_behind_items(value, MOST_DEEP, MOST_ITEMS) is not None


def room_behind_items(items, depth, room):
    """Return how many of room items are left to use behind these, None if they do not fit.

    Loops among the items may be nested depth deep.
    """
    if not isinstance(items, tuple) or not 1 <= len(items) <= MOST_BESIDE:
        return None
    for item in items:
        room = room_behind(item, depth, room)
        if room is None:
            return None
    return room


def room_behind(item, depth, room):
    """Return the same as room_behind_items, for one item."""
    # Room and depth are checked ahead of what is inside, so that a huge value is not walked through.
    if room == 0 or not isinstance(item, tuple) or len(item) != 3:
        return None
    kind, first, second = item
    if kind == "line":
        is_line = is_name(first) and is_integer_within(second, 1, MOST_TICKS)
        return room - 1 if is_line else None
    if kind != "loop" or depth == 0 or not is_integer_within(first, 1, MOST_ROUNDS):
        return None
    return room_behind_items(second, depth - 1, room - 1)


def is_name(value):
    """Return, for any value, whether it is a name."""
    if not isinstance(value, str) or not 1 <= len(value) <= MOST_LETTERS:
        return False
    return all(["a" <= letter <= "z" for letter in value])


def length(program):
    """Return the number of ticks of the program."""
    return sum([ticks for name, ticks in spent(program, 1)])


def lines_of(program):
    """Return the names of the lines of the program, ascending."""
    return tuple(sorted({name for name, ticks in spent(program, 1)}))


def line_at(program, tick):
    """Return the name of the line of a tick; raise NoTick if there is no such tick."""
    if not is_integer_within(tick, 0, length(program) - 1):
        raise NoTick(tick)
    item, rest = item_at(program, tick)
    while item[0] == "loop":
        item, rest = item_at(item[2], rest % length(item[2]))
    return item[1]


def totals(program):
    """Return (name, ticks) for all lines of the program, ascending."""
    return added_up(program, spent(program, 1))


def totals_between(program, first, stop):
    """Return (name, ticks) for all lines, of the ticks from first up to, but not including, stop."""
    ahead = [(name, -ticks) for name, ticks in spent_before(program, first)]
    return added_up(program, spent_before(program, stop) + ahead)


def nth_tick(program, name, number):
    """Return the tick at which the line has its tick with this number; raise NoLine or NoTick."""
    check_line(program, name)
    if not is_integer_within(number, 0, ticks_of(program, name) - 1):
        raise NoTick(number)
    return ticks_ahead(program, name, number)


def expanded(program):
    """Return the names of all ticks, in order; raise TooLong above 2000 ticks."""
    check_length(program)
    return tuple(written_out(program))


def check_line(program, name):
    """Raise NoLine if the name, any value, is not a line of the program."""
    if name not in lines_of(program):
        raise NoLine(name)


def check_length(program):
    """Raise TooLong if the program has more than 2000 ticks."""
    size = length(program)
    if size > LONGEST:
        raise TooLong(size)


def spent(items, rounds):
    """Return a list of (name, ticks), one for each line item: what these rounds of the items spend."""
    pairs = []
    for kind, first, second in items:
        if kind == "line":
            pairs.append((first, rounds * second))
        else:
            pairs.extend(spent(second, rounds * first))
    return pairs


def spent_before(items, stop):
    """Return a list of (name, ticks) that add up to the first stop ticks of the items."""
    pairs = []
    for item in items:
        size = length((item,))
        if stop < size:
            return pairs + spent_early(item, stop)
        pairs.extend(spent((item,), 1))
        stop -= size
    return pairs


def spent_early(item, stop):
    """Return the same as spent_before, for one item that has more than stop ticks."""
    kind, first, second = item
    if kind == "line":
        return [(first, stop)]
    rounds, rest = divmod(stop, length(second))
    return spent(second, rounds) + spent_before(second, rest)


def added_up(program, pairs):
    """Return (name, ticks) for all lines of the program, ascending, with the sums over the pairs."""
    names = lines_of(program)
    sums = {name: 0 for name in names}
    for name, ticks in pairs:
        sums[name] += ticks
    return tuple([(name, sums[name]) for name in names])


def ticks_of(items, name):
    """Return the number of ticks that the items spend in the line."""
    return sum([ticks for other, ticks in spent(items, 1) if other == name])


def item_at(items, tick):
    """Return the item that spends the tick, and how many of its ticks are ahead of this one."""
    at = 0
    size = length(items[:1])
    while tick >= size:
        tick -= size
        at += 1
        size = length(items[at:at + 1])
    return items[at], tick


def ticks_ahead(items, name, number):
    """Return how many ticks of the items are ahead of the line's tick with this number."""
    at = 0
    here = ticks_of(items[:1], name)
    while number >= here:
        number -= here
        at += 1
        here = ticks_of(items[at:at + 1], name)
    kind, first, second = items[at]
    ahead = length(items[:at])
    if kind == "line":
        return ahead + number
    rounds, rest = divmod(number, ticks_of(second, name))
    return ahead + rounds * length(second) + ticks_ahead(second, name, rest)


def written_out(items):
    """Return the list of the names of all ticks of the items."""
    names = []
    for kind, first, second in items:
        names.extend([first] * second if kind == "line" else written_out(second) * first)
    return names

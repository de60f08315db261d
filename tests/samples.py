"""Programs and values for the tests, and slow, plain counts to compare with."""

from fractions import Fraction
from random import Random

SHORT = (('line', 'a', 1), ('line', 'b', 2), ('line', 'a', 1))
HALF = (('line', 'a', 3), ('line', 'b', 3))
PAIRS = (('line', 'a', 2), ('line', 'b', 2))
LONG = (('line', 'a', 1), ('loop', 10 ** 18, (('line', 'b', 2), ('line', 'c', 1))))

MOST_TICKS = 10 ** 12
MOST_ROUNDS = 10 ** 18


def nested(value, depth, wrap):
    """Return the value wrapped depth times."""
    for level in range(depth):
        value = wrap(value)
    return value


def any_values():
    """Return values of every sort that any value may have, new ones with each call."""
    return [
        0, 1, 2, 3, -1, -2, 4, 10 ** 12, 10 ** 18, 10 ** 40, -10 ** 40, 10 ** 400,
        True, False, None,
        '', 'a', 'b', 'zz', 'A', ' ', '0', '1', 'line', 'loop', 'abcdefgh', 'abcdefghi', '\n', '\u00e9', 'a' * 20000,
        (), (0,), (1,), ('a',), (None,), (True, False), ('a', 0), ('a', 0, 1), ('a', 0, 1, 2), ((), ()),
        ('line', 'a', 1), ('loop', 1, (('line', 'a', 1),)), (('line', 'a', 1), 0), (('line', 'a', 1),),
        [], [0], ['a'], ['a', 0, 1], [[]], [('line', 'a', 1)], ['line', 'a', 1], [None, True],
        {}, {'a': 1}, {0: 'a'}, {(): []}, {'line': 'a'}, {'a': {'a': {}}}, {None: None, True: False},
        nested(1, 29, lambda x: (x,)), nested('a', 29, lambda x: [x]), nested(None, 29, lambda x: {'a': x}),
        nested((), 29, lambda x: ((), x)), nested((), 14, lambda x: [{'a': x}]),
        nested(('line', 'a', 1), 14, lambda x: ('loop', 1, (x,))),
        (nested(('line', 'a', 1), 14, lambda x: ('loop', 1, (x,))),),
        nested(('line', 'a', 1), 29, lambda x: ('loop', 1, x)),
    ]


def line_ticks(items):
    """Return a dict of the ticks of each line, by adding up."""
    sums = {}
    for item in items:
        if item[0] == 'line':
            sums[item[1]] = sums.get(item[1], 0) + item[2]
        else:
            for name, ticks in line_ticks(item[2]).items():
                sums[name] = sums.get(name, 0) + item[1] * ticks
    return sums


def size_of(items):
    return sum(line_ticks(items).values())


def ticks_one_by_one(items):
    """Return the list of the names of all ticks, spending one tick after the other."""
    names = []
    for item in items:
        if item[0] == 'line':
            for tick in range(item[2]):
                names.append(item[1])
        else:
            for turn in range(item[1]):
                names.extend(ticks_one_by_one(item[2]))
    return names


def random_items(rng, depth, most_ticks, most_rounds, most_beside):
    items = []
    for at in range(rng.randint(1, most_beside)):
        if depth and rng.random() < 0.5:
            inside = random_items(rng, depth - 1, most_ticks, most_rounds, most_beside)
            items.append(('loop', rng.randint(1, most_rounds), inside))
        else:
            items.append(('line', rng.choice('abc'), rng.randint(1, most_ticks)))
    return tuple(items)


def small_programs(seed, many, longest=400):
    """Return small programs with loops within loops, the same ones for the same seed."""
    rng = Random(seed)
    programs = [SHORT, HALF, PAIRS, (('line', 'a', 1),), (('loop', 1, (('line', 'a', 1),)),),
                (('loop', 3, (('loop', 2, (('loop', 2, (('loop', 1, (('loop', 2, (('line', 'b', 1),
                 ('line', 'a', 2))),)), ('line', 'c', 1))),)), ('line', 'a', 1))),)]
    while len(programs) < many:
        program = random_items(rng, rng.randint(0, 3), 4, 4, 3)
        if size_of(program) <= longest:
            programs.append(program)
    return programs


def tower(rounds, ticks):
    """Return a program of five loops within each other, with lines ahead of and behind each of them."""
    items = (('line', 'a', ticks[0]), ('line', 'b', ticks[1]))
    for level in range(5):
        ahead = ('line', 'abcde'[level], ticks[2 + level])
        behind = ('line', 'fabcd'[level], ticks[7 + level])
        items = (ahead, ('loop', rounds[level], items), behind)
    return items


def deep_programs(seed, many):
    """Return programs of five loops within each other with rounds and ticks up to the limits."""
    rng = Random(seed)
    programs = [
        tower([MOST_ROUNDS] * 5, [MOST_TICKS] * 12),
        tower([MOST_ROUNDS] * 5, [1] * 12),
        tower([1] * 5, [MOST_TICKS] * 12),
        (('loop', MOST_ROUNDS, (('loop', MOST_ROUNDS, (('loop', MOST_ROUNDS, (('loop', MOST_ROUNDS, (
            ('loop', MOST_ROUNDS, (('line', 'a', 1), ('line', 'b', MOST_TICKS))),)),)),)),)),),
    ]
    while len(programs) < many:
        rounds = [rng.choice((1, 2, rng.randint(1, 50), rng.randint(1, MOST_ROUNDS), MOST_ROUNDS - rng.randint(0, 9)))
                  for level in range(5)]
        ticks = [rng.choice((1, rng.randint(1, 9), rng.randint(1, MOST_TICKS), MOST_TICKS)) for level in range(12)]
        programs.append(tower(rounds, ticks))
    return programs


def place_on_a_path(program, rng):
    """Go down into loops, to their first, last or another round, as far as a tick of a line.

    Return the number of this tick, its line, and a dict of the ticks of each line ahead of it.
    """
    items = program
    tick = 0
    ahead = {name: 0 for name in line_ticks(program)}

    def skip(skipped, times):
        for name, ticks in line_ticks(skipped).items():
            ahead[name] += times * ticks
        return times * size_of(skipped)

    while True:
        at = rng.randrange(len(items))
        tick += skip(items[:at], 1)
        kind, first, second = items[at]
        if kind == 'line':
            more = rng.choice((0, second - 1, rng.randrange(second)))
            return tick + skip((('line', first, 1),), more), first, ahead
        tick += skip(second, rng.choice((0, first - 1, rng.randrange(first))))
        items = second


def counts_by_doubling(items, modulus):
    """Return (length, dict of the ticks of each line in each class), rounds being doubled."""
    whole = (0, {})
    for item in items:
        if item[0] == 'line':
            part = times((1, {item[1]: [1] + [0] * (modulus - 1)}), item[2], modulus)
        else:
            part = times(counts_by_doubling(item[2], modulus), item[1], modulus)
        whole = followed(whole, part, modulus)
    return whole


def followed(one, other, modulus):
    size, counts = one
    counts = dict(counts)
    cut = -size % modulus
    for name, column in other[1].items():
        moved = column[cut:] + column[:cut]
        counts[name] = [x + y for x, y in zip(counts.get(name, [0] * modulus), moved)]
    return size + other[0], counts


def times(counts, rounds, modulus):
    out = (0, {})
    for digit in f'{rounds:b}':
        out = followed(out, out, modulus)
        if digit == '1':
            out = followed(out, counts, modulus)
    return out


def counts_before(items, stop, modulus):
    """Return the same as counts_by_doubling, for the first stop ticks of the items."""
    whole = (0, {})
    for item in items:
        size = size_of((item,))
        if stop >= size:
            part = counts_by_doubling((item,), modulus)
        elif item[0] == 'line':
            part = counts_by_doubling((('line', item[1], stop),), modulus)
        else:
            rounds, rest = divmod(stop, size_of(item[2]))
            full = times(counts_by_doubling(item[2], modulus), rounds, modulus)
            part = followed(full, counts_before(item[2], rest, modulus), modulus)
        whole = followed(whole, part, modulus)
        stop = max(stop - size, 0)
    return whole


def wide_programs(seed):
    """Return programs of 20 items side by side and of 60 items in all, with ticks and rounds up to the limits."""
    rng = Random(seed)

    def line():
        return ('line', rng.choice('abcdefg'), rng.choice((1, 2, rng.randint(1, MOST_TICKS), MOST_TICKS)))

    def loop(inside):
        return ('loop', rng.choice((1, 2, rng.randint(1, MOST_ROUNDS), MOST_ROUNDS)), tuple(inside))

    lines = [line() for at in range(20)]
    loops_of_two = [loop([line(), line()]) for at in range(20)]
    # Three loops of 19 items: 60 items in all.
    loops_of_many = [loop([line() for at in range(19)]) for turn in range(3)]
    # Five deep, and 60 items in all.
    inside = loop([loop([loop([line()])])])
    inside = loop([line() for at in range(17)] + [inside])
    inside = loop([inside] + [line() for at in range(18)])
    deep = [line() for at in range(19)] + [inside]
    return [tuple(lines), tuple(loops_of_two), tuple(loops_of_many), tuple(deep)]


def items_in_all(items):
    return sum(1 + (items_in_all(item[2]) if item[0] == 'loop' else 0) for item in items)


def divisors(number):
    return [divisor for divisor in range(1, number + 1) if number % divisor == 0]


def seen_shares(ticks, period, start):
    """Return the seen share of each line, by going from look to look until the looks come again."""
    found = []
    tick = start % len(ticks)
    while not found or tick != start % len(ticks):
        found.append(ticks[tick])
        tick = (tick + period) % len(ticks)
    return {name: Fraction(found.count(name), len(found)) for name in set(ticks)}


def variants(value):
    """Return values that differ from a tuple by a part removed, repeated, changed or wrapped."""
    out = [list(value), (value,), [value], {'a': value}, value + value, value + (0,), value[::-1]]
    for at in range(len(value)):
        head, part, tail = value[:at], value[at], value[at + 1:]
        out.append(head + tail)
        out.append(head + (part, part) + tail)
        for other in [(part,), [part], {'a': part}, None, True, False, 0, -1, '', (), [], {}, 'A']:
            out.append(head + (other,) + tail)
    return out

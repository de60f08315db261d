"""Point 6, and what point 4 says of looks in (a)."""

import copy
import unittest
from random import Random

from evensamples.classes import class_table
from evensamples.looks import look_count, looks, seen
from evensamples.programs import is_program, length, line_at, lines_of, totals
from tests.samples import (HALF, LONG, MOST_ROUNDS, MOST_TICKS, PAIRS, SHORT, counts_before, counts_by_doubling,
                           deep_programs, items_in_all, line_ticks, place_on_a_path, size_of,
                           small_programs, ticks_one_by_one, wide_programs)

P = (('line', 'a', 1), ('loop', 3, (('line', 'b', 2), ('line', 'a', 1))))


def counted(names, found):
    """Return (name, count) for all the names, ascending."""
    return tuple((name, found.count(name)) for name in sorted(set(names)))


def looks_tick_by_tick(ticks, period, start):
    found = []
    for tick, name in enumerate(ticks):
        if tick >= start and (tick - start) % period == 0:
            found.append(name)
    return counted(ticks, found)


def seen_look_by_look(ticks, period, start, count):
    found = []
    tick = start
    for look in range(count):
        found.append(ticks[tick % len(ticks)])
        tick += period
    return counted(ticks, found)


def looks_by_doubling(program, period, start):
    """Return the looks from start on: all in its class except those ahead of it."""
    whole = counts_by_doubling(program, period)[1]
    ahead = counts_before(program, min(start, size_of(program)), period)[1]
    place = start % period
    return tuple((name, whole[name][place] - ahead.get(name, [0] * period)[place]) for name in sorted(whole))


def minus(one, other):
    return tuple((name, many - dict(other)[name]) for name, many in one)


def plus(one, other):
    return tuple((name, many + dict(other)[name]) for name, many in one)


def only(program, name):
    return tuple((other, int(other == name)) for other in lines_of(program))


def starts_within(program, rng, many):
    return [place_on_a_path(program, rng)[0] for turn in range(many)]


class LookCase(unittest.TestCase):

    def assert_looks(self, program, period, start, expected):
        self.assertEqual(looks(program, period, start), expected)
        self.assertEqual(look_count(program, period, start), sum(many for name, many in expected))


class ExampleTest(unittest.TestCase):

    def test_examples(self):
        self.assertEqual([looks(SHORT, 2, 0), looks(SHORT, 3, 1), looks(LONG, 3, 1), look_count(LONG, 3, 1)],
                         [(('a', 1), ('b', 1)), (('a', 0), ('b', 1)),
                          (('a', 0), ('b', 1000000000000000000), ('c', 0)), 1000000000000000000])
        self.assertEqual(seen(SHORT, 3, 0, 4), (('a', 2), ('b', 2)))

    def test_further_examples(self):
        self.assertEqual([looks(P, 3, 0), looks(P, 3, 2), look_count(P, 3, 2)],
                         [(('a', 4), ('b', 0)), (('a', 0), ('b', 3)), 3])
        self.assertEqual([seen(P, 4, 7, 0), seen(P, 4, 7, 1), seen(P, 4, 7, 5)],
                         [(('a', 0), ('b', 0)), (('a', 0), ('b', 1)), (('a', 2), ('b', 3))])


class SmallProgramTest(LookCase):

    def test_all_periods_and_starts_to_beyond_the_program(self):
        for program in small_programs(41, 40, longest=25):
            ticks = ticks_one_by_one(program)
            for period in range(1, len(ticks) + 3):
                for start in range(len(ticks) + period + 2):
                    self.assert_looks(program, period, start, looks_tick_by_tick(ticks, period, start))

    def test_longer_programs(self):
        rng = Random(42)
        for program in small_programs(43, 150):
            ticks = ticks_one_by_one(program)
            size = len(ticks)
            for period in (1, 2, rng.randint(1, size), size, size + 1, 2000):
                for start in (0, rng.randrange(size), size - 1, size, size + rng.randint(1, 3000)):
                    self.assert_looks(program, period, start, looks_tick_by_tick(ticks, period, start))

    def test_period_1_sees_every_tick_from_start_on(self):
        for program in small_programs(44, 40) + deep_programs(45, 10):
            self.assertEqual(looks(program, 1, 0), totals(program))
            self.assertEqual(look_count(program, 1, 0), length(program))

    def test_behind_the_end_nothing_is_seen(self):
        for program in small_programs(46, 20) + deep_programs(47, 10) + wide_programs(48):
            nothing = tuple((name, 0) for name in lines_of(program))
            size = length(program)
            for period in (1, 7, 2000):
                for start in (size, size + 1, size + 2000, 3 * size, 10 ** 300):
                    self.assert_looks(program, period, start, nothing)
                self.assert_looks(program, period, size - 1, only(program, line_at(program, size - 1)))


class DeepProgramTest(LookCase):

    def test_starts_within_the_first_period(self):
        rng = Random(49)
        for program in deep_programs(50, 40):
            for period in (1, 2, 10, rng.randint(3, 60), 64):
                start = rng.randrange(period)
                counts = counts_by_doubling(program, period)[1]
                self.assert_looks(program, period, start,
                                  tuple((name, counts[name][start]) for name in sorted(counts)))

    def test_starts_within_the_loops(self):
        rng = Random(51)
        for program in deep_programs(52, 25):
            for start in starts_within(program, rng, 4):
                period = rng.choice((1, 2, 9, 16, rng.randint(3, 60)))
                self.assert_looks(program, period, start, looks_by_doubling(program, period, start))

    def test_period_2000(self):
        rng = Random(53)
        for program in deep_programs(54, 5)[::2]:
            for start in (0, 1999, 2000, starts_within(program, rng, 1)[0]):
                self.assert_looks(program, 2000, start, looks_by_doubling(program, 2000, start))

    def test_20_items_side_by_side_and_60_in_all(self):
        rng = Random(55)
        programs = wide_programs(56)
        self.assertTrue(all(is_program(program) for program in programs))
        self.assertEqual([(len(program), items_in_all(program)) for program in programs],
                         [(20, 20), (20, 60), (3, 60), (20, 60)])
        for program in programs:
            for period in (1, 30, 49, 360):
                for start in [0, period - 1] + starts_within(program, rng, 3):
                    self.assert_looks(program, period, start, looks_by_doubling(program, period, start))
            start = starts_within(program, rng, 1)[0]
            self.assert_looks(program, 2000, start, looks_by_doubling(program, 2000, start))

    def test_starts_near_the_end(self):
        for program in deep_programs(57, 12) + wide_programs(58):
            size = length(program)
            last = [line_at(program, tick) for tick in range(max(size - 60, 0), size)]
            for period in (1, 2, 7, 59, 2000):
                for left in (1, 2, 3, 30, 59, 60):
                    if left <= size:
                        expected = counted(lines_of(program), last[-left::period])
                        self.assert_looks(program, period, size - left, expected)

    def test_a_start_one_period_later_sees_one_look_less(self):
        rng = Random(59)
        for program in small_programs(60, 20) + deep_programs(61, 12) + wide_programs(62):
            size = length(program)
            for start in starts_within(program, rng, 3) + [0, size - 1]:
                for period in (1, rng.randint(2, 300)):
                    less = minus(looks(program, period, start), looks(program, period, start + period))
                    self.assertEqual(less, only(program, line_at(program, start)))
                    self.assertEqual(look_count(program, period, start),
                                     look_count(program, period, start + period) + 1)

    def test_starts_at_the_ends_of_rounds(self):
        inner = (('line', 'a', 2), ('loop', 3, (('line', 'b', 1), ('line', 'c', 2))))
        program = (('loop', MOST_ROUNDS, inner), ('line', 'd', 1))
        for turn in (0, 1, 2, MOST_ROUNDS - 1, MOST_ROUNDS):
            for start in range(max(11 * turn - 3, 0), 11 * turn + 4):
                for period in (1, 3, 11, 22):
                    self.assert_looks(program, period, start, looks_by_doubling(program, period, start))

    def test_long_lines(self):
        program = (('line', 'a', MOST_TICKS), ('line', 'b', MOST_TICKS), ('line', 'a', MOST_TICKS))
        self.assert_looks(program, 2000, 0, (('a', 10 ** 9), ('b', 5 * 10 ** 8)))
        self.assert_looks(program, 1000, MOST_TICKS - 1, (('a', 1 + 10 ** 9), ('b', 10 ** 9)))
        self.assert_looks(program, 1000, 2 * MOST_TICKS - 1, (('a', 10 ** 9), ('b', 1)))

    def test_programs_and_periods_somewhat_beyond_the_limits(self):
        program = (('line', 'a', 1),) * 20 + (('line', 'idle', 5000),)
        self.assert_looks(program, 2001, 3, (('a', 1), ('idle', 2)))
        self.assertEqual(seen(program, 2001, 3, 3), (('a', 1), ('idle', 2)))


class SeenTest(unittest.TestCase):

    def test_look_by_look(self):
        rng = Random(63)
        for program in small_programs(64, 80):
            ticks = ticks_one_by_one(program)
            for count in (0, 1, 2, rng.randint(3, 40), len(ticks), 2 * len(ticks) + 1):
                period = rng.choice((1, 2, len(ticks), rng.randint(1, 2 * len(ticks)), rng.randint(1, 2000), 2000))
                for start in (0, rng.randrange(len(ticks)), len(ticks), rng.randint(0, 10 ** 6), 10 ** 40 + 7):
                    self.assertEqual(seen(program, period, start, count),
                                     seen_look_by_look(ticks, period, start, count))

    def test_all_periods_and_starts_of_very_small_programs(self):
        for program in small_programs(65, 20, longest=12):
            ticks = ticks_one_by_one(program)
            if len(ticks) > 12:
                continue
            for period in range(1, len(ticks) + 2):
                for start in range(len(ticks) + 2):
                    for count in range(len(ticks) + 2):
                        self.assertEqual(seen(program, period, start, count),
                                         seen_look_by_look(ticks, period, start, count))

    def test_very_many_looks(self):
        rng = Random(66)
        for program in small_programs(67, 60):
            ticks = ticks_one_by_one(program)
            for count in (10 ** 18, 10 ** 18 - rng.randint(1, 10 ** 6)):
                period = rng.randint(1, 2000)
                start = rng.choice((0, rng.randrange(len(ticks)), 10 ** 30 + rng.randrange(1000)))
                # After as many looks as the program has ticks, the looks come again.
                turns, rest = divmod(count, len(ticks))
                expected = seen_look_by_look(ticks, period, start, rest)
                for name, many in seen_look_by_look(ticks, period, start, len(ticks)):
                    expected = plus(expected, tuple((other, turns * many * (other == name)) for other, few in expected))
                self.assertEqual(seen(program, period, start, count), expected)

    def test_few_looks_at_programs_of_great_length(self):
        rng = Random(68)
        for program in deep_programs(69, 10) + wide_programs(70):
            size = length(program)
            for start in starts_within(program, rng, 2) + [size - 1, size, size - 30, 10 ** 200 + 3]:
                period = rng.choice((1, 5, rng.randint(1, 2000)))
                count = rng.choice((0, 1, 2, 50))
                found = [line_at(program, (start + look * period) % size) for look in range(count)]
                self.assertEqual(seen(program, period, start, count), counted(lines_of(program), found))

    def test_as_many_looks_as_it_was_asked_for(self):
        rng = Random(71)
        for program in small_programs(72, 30) + deep_programs(73, 10) + wide_programs(74):
            for count in (0, 1, 17, rng.randint(1, 10 ** 18), 10 ** 18):
                start = rng.choice((0, length(program) - 1, rng.randrange(2 * length(program)), 10 ** 150))
                pairs = seen(program, rng.randint(1, 400), start, count)
                self.assertEqual(tuple(name for name, many in pairs), lines_of(program))
                self.assertEqual(sum(many for name, many in pairs), count)
                self.assertTrue(all(many >= 0 for name, many in pairs))

    def test_looks_cut_in_two(self):
        rng = Random(75)
        for program in deep_programs(76, 10) + wide_programs(77):
            for turn in range(2):
                period, start = rng.randint(1, 300), rng.randrange(3 * length(program))
                first, second = rng.randint(0, 10 ** 18), rng.randint(0, 10 ** 18)
                self.assertEqual(plus(seen(program, period, start, first),
                                      seen(program, period, start + first * period, second)),
                                 seen(program, period, start, first + second))

    def test_within_the_program_it_sees_what_looks_sees(self):
        for program in small_programs(78, 30) + [LONG]:
            for period in (1, 3, 10):
                for start in (0, 1, length(program) - 1):
                    count = look_count(program, period, start)
                    if count <= 10 ** 18:
                        self.assertEqual(seen(program, period, start, count), looks(program, period, start))

    def test_one_class_is_seen_in_so_many_looks(self):
        program = (('loop', 10 ** 15, (('line', 'a', 5), ('line', 'b', 1), ('loop', 3, (('line', 'c', 2),)))),)
        size = length(program)
        for period, divisor in ((1, 1), (7, 1), (6, 6), (12, 12), (9, 3), (1600, 1600)):
            for start in (0, 1, 5, size + 11, 10 ** 50):
                expected = tuple(zip(lines_of(program), class_table(program, divisor)[start % divisor]))
                self.assertEqual(seen(program, period, start, size // divisor), expected)

    def test_a_start_one_length_later_sees_the_same(self):
        for program in small_programs(79, 20) + deep_programs(80, 5):
            for start in (0, 3):
                expected = seen(program, 12, start, 10 ** 6)
                for laps in (1, 2, 10 ** 30):
                    self.assertEqual(seen(program, 12, start + laps * length(program), 10 ** 6), expected)


class ArgumentTest(unittest.TestCase):

    def test_arguments_by_name(self):
        self.assertEqual(look_count(start=1, period=3, program=SHORT), 1)
        self.assertEqual(looks(start=1, program=SHORT, period=3), (('a', 0), ('b', 1)))
        self.assertEqual(seen(count=5, start=7, period=4, program=P), (('a', 2), ('b', 3)))

    def test_equal_calls_return_equal_results_and_change_nothing(self):
        for program in (SHORT, HALF, PAIRS, LONG, P) + tuple(deep_programs(81, 5)):
            before = copy.deepcopy(program)
            for call in (lambda: look_count(program, 7, 3), lambda: looks(program, 7, 3),
                         lambda: seen(program, 7, 3, 10)):
                self.assertEqual(call(), call())
            self.assertEqual(program, before)

    def test_kinds_of_values(self):
        for program in (SHORT, LONG, P):
            self.assertIs(type(look_count(program, 2, 1)), int)
            for pairs in (looks(program, 2, 1), looks(program, 2, length(program)), seen(program, 2, 1, 0),
                          seen(program, 2, 1, 9)):
                self.assertIs(type(pairs), tuple)
                self.assertEqual([pair[0] for pair in pairs], sorted(line_ticks(program)))
                for pair in pairs:
                    self.assertEqual([type(pair), type(pair[0]), type(pair[1])], [tuple, str, int])


if __name__ == '__main__':
    unittest.main()

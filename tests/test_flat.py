"""Point 7, and what point 4 says of looks in (a)."""

import copy
import unittest
from math import gcd
from random import Random

from evensamples.errors import NotFlat, SampleError
from evensamples.flat import flat_looks, floor_sum
from evensamples.looks import look_count, looks
from evensamples.programs import is_program, length, line_at, lines_of, totals
from tests.samples import (HALF, LONG, MOST_ROUNDS, MOST_TICKS, PAIRS, SHORT, deep_programs, line_ticks,
                           place_on_a_path, random_items, size_of, small_programs, ticks_one_by_one, wide_programs)

HUGE = 10 ** 60


def term_by_term(count, step, shift, modulus):
    total = 0
    for i in range(count):
        total += (step * i + shift) // modulus
    return total


def by_remainders(count, step, shift, modulus):
    """Return the sum for a small modulus: the remainders come again after as many terms as the modulus says."""
    remainders = [(step * i + shift) % modulus for i in range(modulus)]
    turns, rest = divmod(count, modulus)
    left = turns * sum(remainders) + sum(remainders[:rest])
    return (step * (count * (count - 1) // 2) + shift * count - left) // modulus


def by_values(count, step, shift, modulus):
    """Return the sum for a step and a shift from 0 and few values of the terms, adding up a 1 for each value reached."""
    total = 0
    value = 1
    while value * modulus <= step * (count - 1) + shift:
        first = max(-((shift - value * modulus) // step), 0)
        total += count - first
        value += 1
    return total


def flat_small_programs(seed, many):
    rng = Random(seed)
    programs = [SHORT, HALF, PAIRS, (('line', 'a', 1),), (('loop', 1, (('line', 'a', 1),)),),
                (('loop', 4, (('line', 'b', 1), ('line', 'a', 2), ('line', 'b', 1))), ('line', 'c', 3),
                 ('loop', 3, (('line', 'a', 2),)))]
    while len(programs) < many:
        programs.append(random_items(rng, rng.randint(0, 1), 4, 5, 4))
    return programs


def flat_large_programs(seed, many):
    """Return flat programs with rounds and ticks up to the limits."""
    rng = Random(seed)
    programs = [LONG, (('loop', MOST_ROUNDS, (('line', 'a', MOST_TICKS),) * 20),),
                (('loop', MOST_ROUNDS, (('line', 'a', 1),)), ('line', 'b', MOST_TICKS))] + wide_programs(seed)[:3]
    while len(programs) < many:
        items = []
        for at in range(rng.randint(1, 6)):
            lines = tuple(('line', rng.choice('abcd'), rng.choice((1, rng.randint(1, 9), rng.randint(1, MOST_TICKS))))
                          for line in range(rng.randint(1, 4)))
            items.extend(lines if rng.random() < 0.3 else [('loop', rng.randint(1, 10 ** rng.randint(1, 18)), lines)])
        programs.append(tuple(items))
    return programs


def counted(program, found):
    return tuple((name, found.count(name)) for name in lines_of(program))


def from_look_to_look(program, period, start):
    return counted(program, [line_at(program, tick) for tick in range(start, length(program), period)])


def added(program, rows):
    return tuple((name, sum(dict(row)[name] for row in rows)) for name in lines_of(program))


class ExampleTest(unittest.TestCase):

    def test_examples(self):
        self.assertEqual([floor_sum(3, 2, 1, 4), floor_sum(2, -1, 0, 2), flat_looks(LONG, 10 ** 18, 2)],
                         [1, -1, (('a', 0), ('b', 2), ('c', 1))])

    def test_further_examples(self):
        self.assertEqual([floor_sum(0, 5, 5, 3), floor_sum(4, 3, -5, 4), floor_sum(10 ** 18, 1, 0, 10 ** 18)],
                         [0, -2, 0])
        program = (('line', 'a', 10 ** 12), ('loop', 10 ** 18, (('line', 'b', 1),)))
        self.assertEqual(flat_looks(program, 10 ** 17, 10 ** 12), (('a', 0), ('b', 10)))
        with self.assertRaises(NotFlat):
            flat_looks((('loop', 1, (('loop', 1, (('line', 'a', 1),)),)),), 1, 0)


class FloorSumTest(unittest.TestCase):

    def test_all_small_sums(self):
        for count in range(7):
            for step in range(-7, 8):
                for shift in range(-8, 9):
                    for modulus in range(1, 7):
                        self.assertEqual(floor_sum(count, step, shift, modulus),
                                         term_by_term(count, step, shift, modulus))

    def test_term_by_term(self):
        rng = Random(101)
        for turn in range(1500):
            most = 10 ** rng.choice((1, 2, 3, 9, 18, 60))
            count = rng.randint(0, 60)
            step, shift = rng.randint(-most, most), rng.randint(-most, most)
            modulus = rng.randint(1, 10 ** rng.choice((1, 2, 3, 9, 18, 60)))
            self.assertEqual(floor_sum(count, step, shift, modulus), term_by_term(count, step, shift, modulus))

    def test_no_terms(self):
        for step in (-HUGE, -1, 0, 1, HUGE):
            for shift in (-HUGE, -1, 0, 1, HUGE):
                for modulus in (1, 2, HUGE):
                    self.assertEqual(floor_sum(0, step, shift, modulus), 0)
                    self.assertEqual(floor_sum(1, step, shift, modulus), shift // modulus)

    def test_modulus_1(self):
        rng = Random(102)
        for turn in range(100):
            count, step, shift = rng.randint(0, HUGE), rng.randint(-HUGE, HUGE), rng.randint(-HUGE, HUGE)
            self.assertEqual(floor_sum(count, step, shift, 1), step * (count * (count - 1) // 2) + shift * count)

    def test_small_moduli_with_numbers_up_to_10_60(self):
        rng = Random(103)
        for turn in range(300):
            most = 10 ** rng.choice((3, 18, 60))
            count, step, shift = rng.randint(0, most), rng.randint(-most, most), rng.randint(-most, most)
            modulus = rng.randint(1, 50)
            self.assertEqual(floor_sum(count, step, shift, modulus), by_remainders(count, step, shift, modulus))
        for count in (HUGE, HUGE - 1):
            for step in (HUGE, -HUGE, HUGE - 1, 1 - HUGE, 0, 1, -1):
                for shift in (HUGE, -HUGE, 0, 1, -1):
                    for modulus in (1, 2, 7, 30):
                        self.assertEqual(floor_sum(count, step, shift, modulus),
                                         by_remainders(count, step, shift, modulus))

    def test_great_moduli_with_few_values(self):
        rng = Random(104)
        for turn in range(300):
            modulus = rng.randint(10 ** 29, HUGE)
            count = rng.randint(1, 10 ** 30)
            step = rng.randint(1, max(40 * modulus // count, 1))
            shift = rng.randint(0, modulus)
            if step * count <= 80 * modulus:
                self.assertEqual(floor_sum(count, step, shift, modulus), by_values(count, step, shift, modulus))

    def test_a_sum_cut_in_two(self):
        rng = Random(105)
        for turn in range(300):
            most = 10 ** rng.choice((2, 18, 60))
            step, shift, modulus = rng.randint(-most, most), rng.randint(-most, most), rng.randint(1, most)
            first, second = rng.randint(0, most), rng.randint(0, most)
            self.assertEqual(floor_sum(first, step, shift, modulus)
                             + floor_sum(second, step, shift + first * step, modulus),
                             floor_sum(first + second, step, shift, modulus))

    def test_a_sum_backwards_and_with_other_signs(self):
        rng = Random(106)
        for turn in range(300):
            count, modulus = rng.randint(1, HUGE), rng.randint(1, HUGE)
            step, shift = rng.randint(-HUGE, HUGE), rng.randint(-HUGE, HUGE)
            total = floor_sum(count, step, shift, modulus)
            self.assertEqual(floor_sum(count, -step, shift + (count - 1) * step, modulus), total)
            self.assertEqual(floor_sum(count, -step, modulus - 1 - shift, modulus), -total)
            self.assertEqual(floor_sum(count, step, shift + modulus, modulus), total + count)
            self.assertEqual(floor_sum(count, step + modulus, shift, modulus), total + count * (count - 1) // 2)

    def test_sums_over_a_whole_modulus(self):
        rng = Random(107)
        for turn in range(100):
            step, modulus = rng.randint(1, HUGE), rng.randint(1, HUGE)
            expected = ((step - 1) * (modulus - 1) + gcd(step, modulus) - 1) // 2
            self.assertEqual(floor_sum(modulus, step, 0, modulus), expected)


class SmallProgramTest(unittest.TestCase):

    def test_tick_by_tick(self):
        for program in flat_small_programs(111, 60):
            ticks = ticks_one_by_one(program)
            size = len(ticks)
            for period in list(range(1, min(size, 12) + 3)) + [size - 1, size, size + 1, 10 ** 30]:
                for start in list(range(min(size, 12) + 2)) + [size - 2, size - 1, size, size + 1, size + 10 ** 30]:
                    if period > 0 and start >= 0:
                        expected = tuple((name, ticks[start::period].count(name)) for name in sorted(set(ticks)))
                        self.assertEqual(flat_looks(program, period, start), expected)

    def test_it_returns_what_looks_returns(self):
        rng = Random(112)
        for program in flat_small_programs(113, 60) + flat_large_programs(114, 20):
            for period in (1, 2, rng.randint(1, 300)):
                for start in (0, rng.randrange(length(program)), length(program) - 1, length(program)):
                    self.assertEqual(flat_looks(program, period, start), looks(program, period, start))


class LargeProgramTest(unittest.TestCase):

    def starts(self, program, rng):
        size = length(program)
        return [0, rng.randrange(size), place_on_a_path(program, rng)[0], place_on_a_path(program, rng)[0]]

    def test_periods_of_which_few_fit(self):
        rng = Random(121)
        for program in flat_large_programs(122, 40):
            size = length(program)
            for start in self.starts(program, rng):
                for period in (max(size // 70, 1), size // 7 + 1, size // 2 + 1, size, size + 1, 10 ** 30):
                    if size // period <= 100:
                        self.assertEqual(flat_looks(program, period, start),
                                         from_look_to_look(program, period, start))

    def test_looks_of_a_short_period_dealt_out_to_longer_ones(self):
        rng = Random(123)
        for program in flat_large_programs(124, 15):
            for many in (2, 30):
                period = rng.randint(1, 500)
                start = rng.choice(self.starts(program, rng))
                rows = [flat_looks(program, many * period, start + turn * period) for turn in range(many)]
                self.assertEqual(added(program, rows), looks(program, period, start))

    def test_looks_of_a_long_period_dealt_out_to_longer_ones(self):
        rng = Random(125)
        for program in flat_large_programs(126, 25):
            for turn in range(4):
                period = rng.randint(1, 10 ** rng.randint(4, 28))
                start = rng.choice(self.starts(program, rng))
                many = rng.randint(2, 30)
                rows = [flat_looks(program, many * period, start + turn * period) for turn in range(many)]
                self.assertEqual(added(program, rows), flat_looks(program, period, start))

    def test_a_start_one_period_later_sees_one_look_less(self):
        rng = Random(127)
        for program in flat_large_programs(128, 40):
            for start in self.starts(program, rng):
                period = rng.randint(1, 10 ** rng.randint(1, 30))
                name = line_at(program, start)
                expected = tuple((other, many + (other == name))
                                 for other, many in flat_looks(program, period, start + period))
                self.assertEqual(flat_looks(program, period, start), expected)

    def test_all_looks_are_counted(self):
        rng = Random(129)
        for program in flat_large_programs(130, 40):
            for start in self.starts(program, rng):
                period = rng.randint(1, 10 ** rng.randint(1, 30))
                many = len(range(start, min(length(program), start + 10 ** 18 * period), period))
                if many < 10 ** 18:
                    pairs = flat_looks(program, period, start)
                    self.assertEqual(sum(count for name, count in pairs), many)
                    self.assertEqual(look_count(program, period, start), many)

    def test_starts_near_the_end_and_behind_it(self):
        for program in flat_large_programs(131, 30):
            size = length(program)
            nothing = tuple((name, 0) for name in lines_of(program))
            for period in (1, 2, 17, 2001, 10 ** 12 + 1, 10 ** 30):
                for left in (1, 2, 3, 40):
                    if left <= size:
                        self.assertEqual(flat_looks(program, period, size - left),
                                         from_look_to_look(program, period, size - left))
                for start in (size, size + 1, size + period, 2 * size, 10 ** 300):
                    self.assertEqual(flat_looks(program, period, start), nothing)

    def test_period_1_sees_every_tick(self):
        for program in flat_large_programs(132, 20):
            self.assertEqual(flat_looks(program, 1, 0), totals(program))

    def test_rounds_and_period_at_their_limits(self):
        program = (('loop', MOST_ROUNDS, (('line', 'a', MOST_TICKS - 1), ('line', 'b', 1))),)
        self.assertEqual(size_of(program), 10 ** 30)
        self.assertEqual(flat_looks(program, 10 ** 30, 10 ** 30 - 1), (('a', 0), ('b', 1)))
        self.assertEqual(flat_looks(program, 10 ** 12, 10 ** 12 - 1), (('a', 0), ('b', 10 ** 18)))
        self.assertEqual(flat_looks(program, 10 ** 12, 10 ** 12 - 2), (('a', 10 ** 18), ('b', 0)))
        # Each look falls one tick later in its round: of the 10 ** 18 - 10 ** 6 + 1 looks, b is seen by those whose
        # number is 1 less than a multiple of 10 ** 12.
        pairs = flat_looks(program, 10 ** 12 + 1, 0)
        self.assertEqual(pairs, (('a', 10 ** 18 - 2 * 10 ** 6 + 2), ('b', 10 ** 6 - 1)))
        self.assertEqual(sum(count for name, count in pairs), look_count(program, 10 ** 12 + 1, 0))


class NotFlatTest(unittest.TestCase):

    def has_loop_in_loop(self, program):
        return any(inner[0] == 'loop' for item in program if item[0] == 'loop' for inner in item[2])

    def test_exactly_for_loops_within_loops(self):
        found = [0, 0]
        for program in small_programs(141, 200) + deep_programs(142, 10) + wide_programs(143):
            flat = not self.has_loop_in_loop(program)
            found[flat] += 1
            if flat:
                self.assertEqual(flat_looks(program, 3, 1), looks(program, 3, 1))
            else:
                with self.assertRaises(NotFlat):
                    flat_looks(program, 3, 1)
        self.assertGreater(min(found), 40)

    def test_at_every_place(self):
        line = ('line', 'a', 2)
        inner = ('loop', 2, (line,))
        for beside in (1, 3, 20):
            for outer_at in range(beside):
                for inner_at in range(beside):
                    inside = tuple(inner if at == inner_at else line for at in range(beside))
                    for other in (line, inner):
                        program = tuple(('loop', 3, inside) if at == outer_at else other for at in range(beside))
                        with self.assertRaises(NotFlat) as caught:
                            flat_looks(program, 10 ** 30, 10 ** 40)
                        self.assertIs(type(caught.exception), NotFlat)
                        self.assertIsInstance(caught.exception, SampleError)

    def test_start_behind_the_loop_within_a_loop(self):
        program = (('loop', 1, (('loop', 1, (('line', 'a', 1),)),)), ('line', 'b', 5))
        for start in (0, 1, 3, 6, 100):
            with self.assertRaises(NotFlat):
                flat_looks(program, 2, start)


class ArgumentTest(unittest.TestCase):

    def test_arguments_by_name(self):
        self.assertEqual(floor_sum(modulus=4, shift=-5, step=3, count=4), -2)
        self.assertEqual(flat_looks(start=2, period=10 ** 18, program=LONG), (('a', 0), ('b', 2), ('c', 1)))

    def test_equal_calls_return_equal_results_and_change_nothing(self):
        for program in flat_large_programs(151, 10):
            before = copy.deepcopy(program)
            self.assertTrue(is_program(program))
            self.assertEqual(flat_looks(program, 10 ** 20, 5), flat_looks(program, 10 ** 20, 5))
            self.assertEqual(program, before)

    def test_kinds_of_values(self):
        self.assertIs(type(floor_sum(3, -2, 1, 4)), int)
        for program in (SHORT, LONG):
            for start in (0, 1, 10 ** 20):
                pairs = flat_looks(program, 5, start)
                self.assertIs(type(pairs), tuple)
                self.assertEqual([pair[0] for pair in pairs], sorted(line_ticks(program)))
                for pair in pairs:
                    self.assertEqual([type(pair), type(pair[0]), type(pair[1])], [tuple, str, int])


if __name__ == '__main__':
    unittest.main()

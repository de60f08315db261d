"""Point 10, and what point 4 says in (b) of the most misleading start."""

import copy
import unittest
from fractions import Fraction
from math import gcd
from random import Random

from evensamples.bias import most_biased, seen_share, share
from evensamples.errors import NoLine, SampleError, TooLarge
from evensamples.safety import is_safe
from tests.cases import ErrorCase
from tests.samples import (HALF, LONG, MOST_ROUNDS, MOST_TICKS, SHORT, any_values, counts_by_doubling, deep_programs,
                           line_ticks, seen_shares, size_of, small_programs, ticks_one_by_one, wide_programs)

FAR = 10 ** 30
NESTED = (('line', 'a', 1), ('loop', 3, (('line', 'b', 2), ('line', 'a', 1))))


def pair(fraction):
    return fraction.numerator, fraction.denominator


def worst(seen, right):
    """Return the least start with the greatest difference, and the difference, going through a list of seen shares."""
    best = (0, seen[0] - right)
    for start, value in enumerate(seen):
        if abs(value - right) > abs(best[1]):
            best = (start, value - right)
    return best[0], pair(best[1])


class BiasCase(ErrorCase):

    def assert_fraction(self, value):
        self.assertEqual([type(value)] + [type(part) for part in value], [tuple, int, int])
        numerator, denominator = value
        self.assertGreaterEqual(denominator, 1)
        self.assertEqual(gcd(numerator, denominator), 1)

    def assert_bias(self, program, period, name, seen, right):
        """Check all three functions for one line, seen being its seen shares for the starts 0, 1 and so on."""
        self.assertEqual(share(program, name), pair(right))
        for start, value in enumerate(seen):
            found = seen_share(program, period, start, name)
            self.assert_fraction(found)
            self.assertEqual(found, pair(value))
        found = most_biased(program, period, name)
        self.assertEqual([type(found), type(found[0])], [tuple, int])
        self.assert_fraction(found[1])
        self.assertEqual(found, worst(seen, right))


class ExampleTest(BiasCase):

    def test_examples(self):
        self.assertEqual([share(HALF, 'a'), seen_share(HALF, 2, 0, 'a'), seen_share(HALF, 2, 1, 'a'),
                          most_biased(HALF, 2, 'b')], [(1, 2), (2, 3), (1, 3), (0, (-1, 6))])

    def test_further_examples(self):
        self.assertEqual([share(NESTED, 'a'), seen_share(NESTED, 5, 12, 'a'), most_biased(NESTED, 5, 'a'),
                          most_biased(NESTED, 3, 'a')], [(2, 5), (0, 1), (2, (-2, 5)), (0, (0, 1))])
        self.assert_raises_with(NoLine, 'value', 'c', share, NESTED, 'c')


class SmallProgramTest(BiasCase):

    def assert_all_lines(self, program, period):
        """Check all lines of a program by going from look to look."""
        ticks = ticks_one_by_one(program)
        rows = [seen_shares(ticks, period, start) for start in range(len(ticks))]
        for name in set(ticks):
            right = Fraction(ticks.count(name), len(ticks))
            self.assert_bias(program, period, name, [row[name] for row in rows], right)

    def test_all_periods_and_starts(self):
        for program in small_programs(301, 60, longest=24) + [NESTED]:
            for period in range(1, size_of(program) + 4):
                self.assert_all_lines(program, period)

    def test_longer_programs(self):
        rng = Random(302)
        for program in small_programs(303, 60, longest=120):
            size = size_of(program)
            for period in (rng.randint(1, 2 * size), size, rng.choice((2, 3, 4, 6, 12))):
                self.assert_all_lines(program, period)

    def test_starts_and_periods_far_beyond_the_length(self):
        rng = Random(304)
        for program in small_programs(305, 60, longest=40):
            ticks = ticks_one_by_one(program)
            size = len(ticks)
            for period in (size * rng.randint(1, 10 ** 20), rng.randint(1, FAR), FAR, rng.randint(1, size)):
                for start in (size, 7 * size + 3, FAR, rng.randint(1, 10 ** 40), 10 ** 400 + 1):
                    for name, value in seen_shares(ticks, period, start).items():
                        self.assertEqual(seen_share(program, period, start, name), pair(value))

    def test_the_least_start_of_equal_ones(self):
        # Starts 0 and 1 see too much of a, starts 2 and 3 too little, all by the same amount.
        self.assertEqual(most_biased((('line', 'a', 2), ('line', 'b', 2)), 4, 'a'), (0, (1, 2)))
        self.assertEqual(most_biased((('line', 'b', 2), ('line', 'a', 2)), 4, 'a'), (0, (-1, 2)))
        # A greater difference further on counts more than its sign.
        self.assertEqual(most_biased((('line', 'a', 1), ('line', 'b', 2)), 3, 'b'), (0, (-2, 3)))
        self.assertEqual(most_biased((('line', 'b', 2), ('line', 'a', 1)), 3, 'b'), (2, (-2, 3)))
        self.assertEqual(most_biased((('line', 'b', 2), ('line', 'a', 1)), 3, 'a'), (2, (2, 3)))

    def test_the_sign_of_the_error(self):
        self.assertEqual([most_biased(HALF, 2, 'a'), most_biased(HALF, 2, 'b')], [(0, (1, 6)), (0, (-1, 6))])

    def test_safe_periods(self):
        found = [0, 0]
        for program in small_programs(306, 80, longest=60):
            for period in range(1, size_of(program) + 2):
                worsts = [most_biased(program, period, name) for name in line_ticks(program)]
                safe = is_safe(program, period)
                found[safe] += 1
                self.assertIs(all(one == (0, (0, 1)) for one in worsts), safe)
                for start, error in worsts:
                    if error == (0, 1):
                        self.assertEqual(start, 0)
        self.assertGreater(min(found), 150)

    def test_one_line_alone(self):
        for ticks in (1, 2, 12, 2000, MOST_TICKS):
            program = (('line', 'a', ticks),)
            self.assertEqual([share(program, 'a'), seen_share(program, 2, 1, 'a'), most_biased(program, 2, 'a')],
                             [(1, 1), (1, 1), (0, (0, 1))])


class LargeProgramTest(BiasCase):

    def test_against_doubling(self):
        rng = Random(311)
        checked = 0
        for program in deep_programs(312, 25) + wide_programs(313) + [LONG]:
            size = size_of(program)
            small = [divisor for divisor in range(1, 101) if size % divisor == 0]
            for divisor in {1, small[-1], rng.choice(small)}:
                period = divisor * rng.choice((1, 10 ** 9 + 7, rng.randint(1, 10 ** 28)))
                common = gcd(size, period)
                name = rng.choice(sorted(line_ticks(program)))
                if common > 2000:
                    self.assert_raises_with(TooLarge, 'divisor', common, most_biased, program, period, name)
                    continue
                checked += common > 1
                column = counts_by_doubling(program, common)[1][name]
                seen = [Fraction(count, size // common) for count in column]
                self.assert_bias(program, period, name, seen, Fraction(line_ticks(program)[name], size))
                start = rng.randint(1, 10 ** 120)
                self.assertEqual(seen_share(program, period, start, name), pair(seen[start % common]))
        self.assertGreater(checked, 20)

    def test_great_periods(self):
        program = (('loop', MOST_ROUNDS, (('line', 'a', 1), ('line', 'b', 2))),)
        period = 3 * 7 ** 34
        self.assertEqual([share(program, 'a'), share(program, 'b')], [(1, 3), (2, 3)])
        self.assertEqual([seen_share(program, period, start, 'a') for start in (0, 1, 2, FAR, FAR + 2)],
                         [(1, 1), (0, 1), (0, 1), (0, 1), (1, 1)])
        self.assertEqual([most_biased(program, period, 'a'), most_biased(program, period, 'b')],
                         [(0, (2, 3)), (0, (-2, 3))])
        self.assertEqual([share(LONG, 'a'), share(LONG, 'b')], [(1, 3 * 10 ** 18 + 1), (2 * 10 ** 18, 3 * 10 ** 18 + 1)])


class ErrorTest(BiasCase):

    def test_no_line_for_any_value(self):
        for program in (SHORT, LONG, (('line', 'zz', 1),)):
            for value in any_values() + ['c', 'idle', 'lines', ('a',), ['a'], {'a': 'a'}, 'a ', 'aa']:
                if value in list(line_ticks(program)):
                    self.assertEqual(most_biased(program, 1, value), (0, (0, 1)))
                    continue
                for call, arguments in ((share, (program,)), (seen_share, (program, 2, 0)), (most_biased, (program, 2))):
                    with self.assertRaises(NoLine) as caught:
                        call(*arguments, value)
                    self.assertIs(type(caught.exception), NoLine)
                    self.assertIs(caught.exception.value, value)

    def test_divisors_2000_and_2001(self):
        for size in (2000, 2001, 4000, 4002, 2000 * 2001):
            program = (('line', 'a', 1), ('line', 'b', size - 1))
            for period in (2000, 2001, 4000, 4002, 1999, 2001 * 3 ** 50, 2000 * 7 ** 30, size):
                common = gcd(size, period)
                for call in (lambda: seen_share(program, period, 0, 'a'), lambda: most_biased(program, period, 'a')):
                    if common > 2000:
                        self.assert_raises_with(TooLarge, 'divisor', common, call)
                    else:
                        call()
        program = (('line', 'a', 1), ('line', 'b', 1999))
        self.assertEqual([seen_share(program, 2000, 0, 'a'), most_biased(program, 2000, 'a')],
                         [(1, 1), (0, (1999, 2000))])
        program = (('line', 'a', 1), ('line', 'b', 2000))
        self.assert_raises_with(TooLarge, 'divisor', 2001, seen_share, program, 2001, 0, 'a')
        self.assert_raises_with(TooLarge, 'divisor', 2001, most_biased, program, 4002, 'b')
        self.assertEqual(share(program, 'a'), (1, 2001))

    def test_no_line_comes_ahead_of_too_large(self):
        program = (('line', 'a', 2001),)
        for value in ('b', None, 0, ['a'], ''):
            self.assert_raises_with(NoLine, 'value', value, seen_share, program, 2001, 0, value)
            self.assert_raises_with(NoLine, 'value', value, most_biased, program, 2001, value)
        self.assert_raises_with(TooLarge, 'divisor', 2001, seen_share, program, 2001, 0, 'a')


class ArgumentTest(BiasCase):

    def test_arguments_by_name(self):
        self.assertEqual(share(name='a', program=HALF), (1, 2))
        self.assertEqual(seen_share(name='a', start=1, period=2, program=HALF), (1, 3))
        self.assertEqual(most_biased(name='b', period=2, program=HALF), (0, (-1, 6)))

    def test_no_argument_is_changed(self):
        for value in any_values():
            before = copy.deepcopy(value)
            for call in (lambda: share(SHORT, value), lambda: seen_share(SHORT, 2, 1, value),
                         lambda: most_biased(SHORT, 2, value)):
                try:
                    call()
                except SampleError:
                    pass
            self.assertEqual(value, before)

    def test_equal_calls_return_equal_results(self):
        for program in small_programs(321, 20):
            for name in line_ticks(program):
                self.assertEqual(most_biased(program, 6, name), most_biased(program, 6, name))
                self.assertEqual(seen_share(program, 6, 3, name), seen_share(program, 6, 3, name))

    def test_a_program_beyond_the_limits_as_padding_makes_it(self):
        program = (('line', 'a', 1),) * 20 + (('line', 'idle', 10 ** 40),)
        self.assertEqual(share(program, 'idle'), (5 * 10 ** 38, 5 * 10 ** 38 + 1))
        self.assertEqual(most_biased(program, 10, 'idle'), (0, (0, 1)))


if __name__ == '__main__':
    unittest.main()

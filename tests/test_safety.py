"""Point 9, and what point 4 says of safe periods in (b) and (c)."""

import copy
import unittest
from fractions import Fraction
from math import gcd
from random import Random

from evensamples.classes import is_even
from evensamples.errors import TooLarge, TooLong
from evensamples.programs import length
from evensamples.safety import blockers, count_safe, density, is_blocker, is_safe, next_safe, nth_safe
from tests.cases import ErrorCase
from tests.samples import (HALF, LONG, MOST_ROUNDS, MOST_TICKS, PAIRS, SHORT, any_values, counts_by_doubling,
                           deep_programs, divisors, seen_shares, size_of, small_programs, ticks_one_by_one, wide_programs)

SIX = (('line', 'a', 1), ('line', 'b', 5))
ALTERNATING = (('loop', 1000, (('line', 'a', 1), ('line', 'b', 1))),)
FAR = 10 ** 30


def is_safe_look_by_look(ticks, period):
    shares = {name: Fraction(ticks.count(name), len(ticks)) for name in set(ticks)}
    return all(seen_shares(ticks, period, start) == shares for start in range(len(ticks)))


def is_even_tick_by_tick(ticks, modulus):
    for name in set(ticks):
        if len({ticks[place::modulus].count(name) for place in range(modulus)}) > 1:
            return False
    return True


def blockers_by_definition(ticks):
    found = []
    for divisor in divisors(len(ticks)):
        uneven = not is_even_tick_by_tick(ticks, divisor)
        if uneven and all(is_even_tick_by_tick(ticks, smaller) for smaller in divisors(divisor)[:-1]):
            found.append(divisor)
    return tuple(found)


def programs_with_blockers(seed, many, longest):
    """Return small programs, among them many with several safe periods and several blockers."""
    rng = Random(seed)
    programs = small_programs(seed, many, longest)
    for turn in range(many):
        rounds, size = rng.randint(2, 6), rng.randint(1, 6)
        lines = tuple(('line', name, rng.choice((1, 2, 3, rounds))) for name in 'abc'[:rng.randint(1, 3)])
        programs.append((('loop', rounds, lines),) + (('line', 'a', size),) * rng.randint(0, 1))
        programs.append((('loop', rounds, lines + (('loop', size, (('line', 'd', rounds),)),)),))
    return [program for program in programs if size_of(program) <= longest]


class ExampleTest(ErrorCase):

    def test_examples(self):
        self.assertEqual([is_safe(SHORT, 6), is_safe(SHORT, 8), blockers(SHORT), blockers(HALF), density(SHORT)],
                         [True, False, (4,), (2,), (3, 4)])
        self.assertEqual([next_safe(SHORT, 4), count_safe(SHORT, 10), nth_safe(SHORT, 3), next_safe(HALF, 10 ** 30)],
                         [5, 8, 5, 1000000000000000000000000000001])

    def test_further_examples(self):
        self.assert_raises_with(TooLarge, 'divisor', 2001, is_safe, (('line', 'a', 1), ('line', 'b', 2000)), 4002)
        self.assertEqual([blockers(SIX), density(SIX)], [(2, 3), (1, 3)])
        self.assertEqual([count_safe(SIX, 12), next_safe(SIX, 8)], [4, 11])


class IsSafeTest(ErrorCase):

    def test_against_the_definition(self):
        found = [0, 0]
        for program in programs_with_blockers(201, 100, longest=36):
            ticks = ticks_one_by_one(program)
            for period in range(1, len(ticks) + 5):
                safe = is_safe_look_by_look(ticks, period)
                found[safe] += period > 1
                self.assertIs(is_safe(program, period), safe)
        self.assertGreater(min(found), 500)

    def test_periods_far_beyond_the_length(self):
        rng = Random(202)
        for program in programs_with_blockers(203, 25, longest=30):
            ticks = ticks_one_by_one(program)
            for period in (2 * len(ticks), 3 * len(ticks) + 2, rng.randint(1, FAR), FAR - FAR % len(ticks), FAR):
                self.assertIs(is_safe(program, period), is_safe_look_by_look(ticks, period))

    def test_safe_exactly_if_even_modulo_the_common_divisor(self):
        rng = Random(204)
        for program in programs_with_blockers(205, 60, longest=400):
            size = length(program)
            for period in list(range(1, 30)) + [size, 6 * size, rng.randint(1, FAR)]:
                self.assertIs(is_safe(program, period), is_even(program, gcd(size, period)))

    def test_programs_of_great_length(self):
        rng = Random(206)
        found = [0, 0]
        even = [(('loop', MOST_ROUNDS, (('line', 'a', 7), ('line', 'b', 2))),),
                (('loop', 10 ** 17, (('loop', 2, (('line', 'a', 3), ('loop', 5, (('line', 'c', 7),)))),)),),
                (('line', 'a', MOST_TICKS), ('line', 'b', MOST_TICKS))]
        for program in even + deep_programs(207, 25) + wide_programs(208):
            size = size_of(program)
            small = [divisor for divisor in range(1, 130) if size % divisor == 0]
            for divisor in set(small):
                period = divisor * rng.choice((1, 10 ** 9 + 7, rng.randint(1, 10 ** 27)))
                common = gcd(size, period)
                if common > 2000:
                    self.assert_raises_with(TooLarge, 'divisor', common, is_safe, program, period)
                else:
                    columns = counts_by_doubling(program, common)[1].values()
                    safe = all(len(set(column)) == 1 for column in columns)
                    found[safe] += common > 1
                    self.assertIs(is_safe(program, period), safe)
        self.assertGreater(min(found), 10)

    def test_loops_of_many_rounds(self):
        program = (('loop', MOST_ROUNDS, (('line', 'a', 1), ('line', 'b', 2))),)
        self.assertEqual([is_safe(program, period) for period in (1, 2, 3, 4, 5, 6, 7, 2000, 15, 10 ** 3)],
                         [True, True, False, True, True, False, True, True, False, True])
        self.assertIs(is_safe(LONG, FAR), True)
        self.assertIs(is_safe(LONG, FAR - 1), is_even(LONG, gcd(FAR - 1, 3 * 10 ** 18 + 1)))
        self.assert_raises_with(TooLarge, 'divisor', 10 ** 18, is_safe, program, 10 ** 18)

    def test_divisors_2000_and_2001(self):
        self.assertIs(is_safe((('line', 'a', 1), ('line', 'b', 1999)), 4000), False)
        self.assertIs(is_safe((('line', 'a', 2000),), 2000), True)
        self.assertIs(is_safe((('line', 'a', 2000), ('line', 'b', 4000)), 2000 * 10 ** 26), True)
        self.assertIs(is_safe((('line', 'a', 2001), ('line', 'b', 4002)), 667), True)
        for size in (2001, 4002, 2001 * 10 ** 9):
            for period in (2001, 2001 * 5 ** 30, 2001 * 7):
                common = gcd(size, period)
                self.assert_raises_with(TooLarge, 'divisor', common, is_safe, (('line', 'a', size),), period)
        self.assert_raises_with(TooLarge, 'divisor', 2001, is_safe, (('line', 'a', 2001),), 2001)
        program = (('loop', 2000 * 2001, (('line', 'a', 1),)),)
        self.assertIs(is_safe(program, 2000), True)
        self.assert_raises_with(TooLarge, 'divisor', 2001, is_safe, program, 2001)
        self.assert_raises_with(TooLarge, 'divisor', 2000 * 2001, is_safe, program, 2000 * 2001 * 10 ** 20)

    def test_every_common_divisor_near_the_limit(self):
        for common in range(1990, 2012):
            program = (('line', 'a', common), ('line', 'b', common))
            if common > 2000:
                self.assert_raises_with(TooLarge, 'divisor', common, is_safe, program, common)
            else:
                self.assertIs(is_safe(program, common), True)

    def test_a_long_program_is_not_too_long_here(self):
        self.assertIs(is_safe((('line', 'a', 5), ('line', 'b', 10 ** 12)), 7), True)


class BlockerTest(ErrorCase):

    def test_against_the_definition(self):
        several = 0
        for program in programs_with_blockers(211, 60, longest=200):
            found = blockers_by_definition(ticks_one_by_one(program))
            several += len(found) > 1
            self.assertEqual(blockers(program), found)
        self.assertGreater(several, 10)

    def test_longer_programs(self):
        rng = Random(212)
        for size in (720, 840, 1260, 1680, 1999, 2000):
            # Lines that go round in a loop of a divisor of the length, and a tick at some place.
            rounds = rng.choice(divisors(size))
            for program in ((('line', 'a', size),), (('line', 'a', 1), ('line', 'b', size - 1)),
                            (('line', 'a', size // 2), ('line', 'b', size - size // 2)),
                            (('loop', rounds, (('line', 'a', size // rounds),)),),
                            (('loop', size // 2, (('line', 'a', 1),)), ('line', 'b', size - size // 2)),):
                self.assertEqual(size_of(program), size)
                self.assertEqual(blockers(program), blockers_by_definition(ticks_one_by_one(program)))

    def test_blockers_that_are_not_primes(self):
        self.assertEqual(blockers((('line', 'a', 4), ('line', 'b', 4))), (8,))
        self.assertEqual(blockers((('line', 'a', 6), ('line', 'b', 30))), (4, 9))
        # Even modulo 2 and modulo 3, but not modulo 6.
        program = (('line', 'a', 3), ('line', 'b', 2), ('line', 'a', 3), ('line', 'b', 4))
        self.assertEqual(blockers(program), (4, 6))

    def test_is_blocker_for_all_numbers(self):
        for program in programs_with_blockers(213, 25, longest=60):
            found = blockers_by_definition(ticks_one_by_one(program))
            for value in range(-3, size_of(program) + 5):
                self.assertIs(is_blocker(program, value), value in found)

    def test_is_blocker_for_any_value(self):
        for program in (SHORT, HALF, PAIRS, SIX, (('line', 'a', 1),), (('line', 'a', 4), ('line', 'b', 4))):
            found = blockers_by_definition(ticks_one_by_one(program))
            others = [(2,), [2], '2', {2: 2}, (2, 3), [4], ((4,),), {'4': 4}, found, list(found), str(found)]
            for value in any_values() + others + [-2, -4, 2 + 10 ** 30, 6, 12]:
                expected = type(value) is int and value in found
                self.assertIs(is_blocker(program, value), expected)

    def test_one_and_booleans_are_no_blockers(self):
        for program in programs_with_blockers(214, 20, longest=40):
            for value in (1, 0, True, False, None):
                self.assertIs(is_blocker(program, value), False)

    def test_a_period_is_safe_exactly_if_no_blocker_divides_it(self):
        rng = Random(215)
        for program in programs_with_blockers(216, 50, longest=300):
            found = blockers(program)
            for period in list(range(1, 40)) + [size_of(program), rng.randint(1, FAR), FAR]:
                self.assertIs(is_safe(program, period), all(period % blocker for blocker in found))


class TooLongTest(ErrorCase):

    def calls(self):
        return ((blockers, ()), (next_safe, (1,)), (next_safe, (FAR,)), (count_safe, (0,)), (count_safe, (FAR,)),
                (nth_safe, (0,)), (nth_safe, (FAR,)), (density, ()), (is_blocker, (2,)), (is_blocker, (True,)))

    def test_length_2000(self):
        for program in ((('line', 'a', 2000),), ALTERNATING, (('line', 'a', 1), ('line', 'b', 1999))):
            for call, arguments in self.calls():
                call(program, *arguments)
        self.assertEqual(blockers(ALTERNATING), (2,))
        self.assertEqual(density(ALTERNATING), (1, 2))
        self.assertEqual([next_safe(ALTERNATING, 4), count_safe(ALTERNATING, 4001), nth_safe(ALTERNATING, 1500)],
                         [5, 2001, 3001])

    def test_length_2001_and_more(self):
        longer = [((('line', 'a', 2001),), 2001), (ALTERNATING + (('line', 'c', 1),), 2001),
                  ((('line', 'a', MOST_TICKS),), MOST_TICKS), (LONG, 3 * 10 ** 18 + 1),
                  (deep_programs(221, 4)[3], 10 ** 102 + 10 ** 90)]
        for program, size in longer:
            for call, arguments in self.calls():
                self.assert_raises_with(TooLong, 'size', size, call, program, *arguments)

    def test_is_blocker_raises_it_whatever_the_value_is(self):
        program = (('line', 'a', 2000), ('line', 'b', 1))
        for value in any_values() + [3, 23, 29, 2001]:
            self.assert_raises_with(TooLong, 'size', 2001, is_blocker, program, value)


class SafePeriodTest(unittest.TestCase):

    def row(self, program, most):
        """Return all safe periods up to most, by the definition of a safe period."""
        ticks = ticks_one_by_one(program)
        # A period that is one length greater sees the same ticks of the program repeated.
        safe = [is_safe_look_by_look(ticks, rest or len(ticks)) for rest in range(len(ticks))]
        return [period for period in range(1, most + 1) if safe[period % len(ticks)]]

    def test_against_the_row_of_all_safe_periods(self):
        for program in programs_with_blockers(231, 30, longest=60):
            size = size_of(program)
            most = 3 * size + 5
            row = self.row(program, most + size + 1)
            for bound in range(1, most + 1):
                self.assertEqual(next_safe(program, bound), min(period for period in row if period >= bound))
                self.assertEqual(count_safe(program, bound), len([period for period in row if period <= bound]))
            self.assertEqual([nth_safe(program, number) for number in range(len(row))], row)
            self.assertEqual(count_safe(program, 0), 0)
            share = Fraction(len([period for period in row if period <= size]), size)
            self.assertEqual(density(program), (share.numerator, share.denominator))

    def test_bounds_and_numbers_up_to_10_30(self):
        rng = Random(232)
        for program in programs_with_blockers(233, 25, longest=60):
            size = size_of(program)
            row = self.row(program, size)
            for far in (FAR, FAR - 1, FAR - FAR % size, FAR - FAR % size - 1, rng.randint(1, FAR)):
                turns, rest = divmod(far, size)
                expected = turns * len(row) + len([period for period in row if period <= rest])
                self.assertEqual(count_safe(program, far), expected)
                safe = far
                while (safe - 1) % size + 1 not in row:
                    safe += 1
                self.assertEqual(next_safe(program, far), safe)
                turns, at = divmod(far, len(row))
                self.assertEqual(nth_safe(program, far), turns * size + row[at])

    def test_count_next_and_number_fit_together(self):
        rng = Random(234)
        for program in programs_with_blockers(235, 25, longest=300) + [ALTERNATING, (('line', 'a', 999),) + HALF]:
            for number in (0, 1, 2, size_of(program), rng.randint(1, FAR), FAR):
                period = nth_safe(program, number)
                self.assertIs(is_safe(program, period), True)
                self.assertEqual(count_safe(program, period), number + 1)
                self.assertEqual(count_safe(program, period - 1), number)
                self.assertEqual(next_safe(program, period), period)
                self.assertEqual(next_safe(program, period + 1), nth_safe(program, number + 1))

    def test_period_1_is_the_first_one(self):
        for program in programs_with_blockers(236, 20, longest=100):
            self.assertEqual([next_safe(program, 1), nth_safe(program, 0), count_safe(program, 1), count_safe(program, 0)],
                             [1, 1, 1, 0])

    def test_density_is_a_fraction_without_a_common_divisor(self):
        for program in programs_with_blockers(237, 40, longest=200):
            numerator, denominator = density(program)
            size = size_of(program)
            self.assertEqual(gcd(numerator, denominator), 1)
            self.assertEqual(numerator * size, count_safe(program, size) * denominator)
            self.assertTrue(1 <= numerator <= denominator)

    def test_the_density_comes_again_with_every_length(self):
        for program in (SHORT, HALF, PAIRS, SIX):
            size = size_of(program)
            for turns in (1, 2, 10 ** 20):
                numerator, denominator = density(program)
                self.assertEqual(count_safe(program, turns * size) * denominator, turns * size * numerator)


class KnownProgramTest(ErrorCase):

    def test_one_line_alone(self):
        for size in (1, 2, 6, 12, 97, 360, 2000):
            for program in ((('line', 'a', size),), (('loop', size, (('line', 'a', 1),)),),
                            (('loop', 1, (('line', 'a', size),)),)):
                self.assertTrue(all(is_safe(program, period) for period in list(range(1, 60)) + [size, 2000, FAR]))
                self.assertEqual([blockers(program), density(program)], [(), (1, 1)])
                for number in (1, 2, size, FAR):
                    self.assertEqual([next_safe(program, number), count_safe(program, number)], [number, number])
                    self.assertEqual(nth_safe(program, number), number + 1)

    def test_lines_of_equal_length_one_after_the_other(self):
        # A line of n ticks in a row is even exactly modulo the divisors of n.
        for many in (2, 3, 4, 6, 20):
            for ticks in (1, 2, 3, 4, 6, 12, 30):
                program = tuple(('line', 'abcdefghijklmnopqrst'[at], ticks) for at in range(many))
                size = many * ticks
                uneven = [divisor for divisor in divisors(size) if ticks % divisor]
                least = [divisor for divisor in uneven
                         if all(smaller == divisor or divisor % smaller for smaller in uneven)]
                self.assertEqual(blockers(program), tuple(least))
                for period in list(range(1, 50)) + [ticks, size, FAR]:
                    self.assertIs(is_safe(program, period), ticks % gcd(period, size) == 0)
                safe = [period for period in range(1, size + 1) if ticks % gcd(period, size) == 0]
                share = Fraction(len(safe), size)
                self.assertEqual(density(program), (share.numerator, share.denominator))
                self.assertEqual([nth_safe(program, number) for number in range(len(safe))], safe)

    def test_long_lines_one_after_the_other(self):
        for many in (2, 5, 20):
            program = tuple(('line', 'abcdefghijklmnopqrst'[at], MOST_TICKS) for at in range(many))
            for period in (1, 2, 3, 8, 40, 125, 1000, 2000, 3 ** 60, 2 ** 10 * 3 ** 50):
                self.assertIs(is_safe(program, period), MOST_TICKS % gcd(period, many * MOST_TICKS) == 0)

    def test_a_program_beyond_the_limits_as_padding_makes_it(self):
        program = (('line', 'a', 1),) * 20 + (('line', 'idle', 1),)
        self.assertEqual(blockers(program), (3, 7))
        self.assertIs(is_safe(program, 22), True)


class ArgumentTest(unittest.TestCase):

    def test_arguments_by_name(self):
        self.assertIs(is_safe(period=6, program=SHORT), True)
        self.assertEqual(blockers(program=SHORT), (4,))
        self.assertIs(is_blocker(value=4, program=SHORT), True)
        self.assertEqual(next_safe(bound=4, program=SHORT), 5)
        self.assertEqual(count_safe(most=10, program=SHORT), 8)
        self.assertEqual(nth_safe(number=3, program=SHORT), 5)
        self.assertEqual(density(program=SHORT), (3, 4))

    def test_no_argument_is_changed(self):
        for value in any_values():
            before = copy.deepcopy(value)
            is_blocker(SHORT, value)
            self.assertEqual(value, before)
        before = copy.deepcopy(SIX)
        for call in (lambda: is_safe(SIX, 5), lambda: blockers(SIX), lambda: next_safe(SIX, 9),
                     lambda: count_safe(SIX, 9), lambda: nth_safe(SIX, 9), lambda: density(SIX)):
            self.assertEqual(call(), call())
        self.assertEqual(SIX, before)

    def test_kinds_of_values(self):
        self.assertIs(type(is_safe(SIX, 4)), bool)
        self.assertIs(type(is_blocker(SIX, 2)), bool)
        self.assertEqual([type(blockers(SIX))] + [type(blocker) for blocker in blockers(SIX)], [tuple, int, int])
        self.assertEqual([type(density(SIX))] + [type(part) for part in density(SIX)], [tuple, int, int])
        self.assertEqual([type(next_safe(SIX, 4)), type(count_safe(SIX, 4)), type(nth_safe(SIX, 4))], [int, int, int])


if __name__ == '__main__':
    unittest.main()

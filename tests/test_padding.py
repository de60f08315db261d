"""Point 13, padded and least_padding, and what point 4 says in (f)."""

import copy
import unittest
from math import gcd
from random import Random

from evensamples.padding import least_padding, padded
from evensamples.programs import is_program, length, totals
from evensamples.safety import is_safe
from tests.samples import (HALF, LONG, MOST_ROUNDS, MOST_TICKS, PAIRS, SHORT, counts_by_doubling, deep_programs,
                           line_ticks, size_of, small_programs, ticks_one_by_one, wide_programs)

IDLE = (('line', 'a', 2), ('line', 'idle', 1), ('line', 'b', 3))
IDLE_INSIDE = (('loop', 3, (('line', 'idle', 2), ('line', 'a', 1))), ('line', 'b', 1))


def is_safe_tick_by_tick(ticks, period):
    """Return whether each line has the same number of ticks in all classes modulo the common divisor."""
    common = gcd(period, len(ticks))
    return all(len({ticks[place::common].count(name) for place in range(common)}) == 1 for name in set(ticks))


def least_tick_by_tick(program, period):
    ticks = ticks_one_by_one(program)
    added = 0
    while not is_safe_tick_by_tick(ticks + ['idle'] * added, period):
        added += 1
    return added


def least_by_trying(program, period):
    added = 0
    while not is_safe(program if added == 0 else program + (('line', 'idle', added),), period):
        added += 1
    return added


class ExampleTest(unittest.TestCase):

    def test_examples(self):
        self.assertEqual([least_padding(HALF, 2), least_padding(SHORT, 2), padded(PAIRS, 1)],
                         [1, 0, (('line', 'a', 2), ('line', 'b', 2), ('line', 'idle', 1))])

    def test_further_examples(self):
        program = (('loop', 5, (('line', 'a', 1), ('line', 'b', 1))),)
        self.assertEqual((least_padding(program, 1), least_padding(program, 2), least_padding(program, 4),
                          least_padding(program, 5)), (0, 1, 1, 0))


class PaddedTest(unittest.TestCase):

    def test_no_ticks(self):
        for program in small_programs(601, 20) + deep_programs(602, 5) + [IDLE, LONG]:
            self.assertIs(padded(program, 0), program)

    def test_an_item_is_added_at_the_end(self):
        for program in small_programs(603, 20) + deep_programs(604, 5) + wide_programs(605) + [IDLE, IDLE_INSIDE, LONG]:
            for ticks in (1, 2, 2000, MOST_TICKS, MOST_TICKS + 1, 10 ** 400):
                more = padded(program, ticks)
                self.assertEqual(more, program + (('line', 'idle', ticks),))
                self.assertEqual(length(more), size_of(program) + ticks)
                self.assertEqual(dict(totals(more))['idle'], line_ticks(program).get('idle', 0) + ticks)
                self.assertEqual(set(dict(totals(more))), set(line_ticks(program)) | {'idle'})

    def test_the_result_may_be_beyond_the_limits(self):
        program = (('line', 'a', 1),) * 20
        more = padded(program, 5)
        self.assertIs(is_program(more), False)
        self.assertEqual([length(more), least_padding(more, 2)], [25, 0])
        self.assertEqual(padded(more, 2)[-2:], (('line', 'idle', 5), ('line', 'idle', 2)))

    def test_kinds_of_values(self):
        more = padded(PAIRS, 7)
        self.assertEqual([type(more), type(more[-1])] + [type(part) for part in more[-1]], [tuple, tuple, str, str, int])


class LeastPaddingTest(unittest.TestCase):

    def test_tick_by_tick(self):
        found = {}
        for program in small_programs(611, 60, longest=40) + [IDLE, IDLE_INSIDE]:
            for period in range(1, size_of(program) + 8):
                least = least_padding(program, period)
                found[least] = found.get(least, 0) + 1
                self.assertEqual(least, least_tick_by_tick(program, period))
                self.assertLess(least, period)
        self.assertGreater(min(found[0], found[1], found[2], found[3]), 5)

    def test_programs_with_idle_lines(self):
        rng = Random(612)
        more = 0
        for program in small_programs(613, 60, longest=40):
            items = list(program)
            items.insert(rng.randint(0, len(items)), ('line', 'idle', rng.randint(1, 4)))
            items = tuple(items)
            for period in range(1, 14):
                least = least_padding(items, period)
                self.assertEqual(least, least_tick_by_tick(items, period))
                # Idle ticks at the end may make up for idle ticks elsewhere, so the length and the period
                # may have a common divisor.
                more += least > 0 and gcd(size_of(items) + least, period) > 1
        self.assertGreater(more, 0)

    def test_idle_ticks_are_added_to_those_of_the_program(self):
        # One more idle tick makes the length 4 and idle even modulo 2; with another name it would be uneven.
        self.assertEqual([least_padding((('line', 'a', 2), ('line', name, 1)), 6) for name in ('idle', 'b')], [1, 2])
        self.assertEqual([least_padding((('line', name, 1), ('line', 'a', 4)), 10) for name in ('idle', 'b')], [1, 2])

    def test_against_trying_for_long_programs(self):
        rng = Random(614)
        loops = [(('loop', MOST_ROUNDS, (('line', 'a', 7), ('line', 'b', 3))),),
                 (('loop', MOST_ROUNDS, (('loop', 30, (('line', 'a', 1), ('line', 'idle', 1))),)), ('line', 'b', 2)),
                 (('loop', MOST_ROUNDS - 1, (('line', 'a', 2), ('line', 'b', 1))), ('line', 'a', 30)), LONG]
        for program in loops + deep_programs(615, 12) + wide_programs(616)[:2]:
            for period in (1, 2, 3, 30, 210, rng.randint(2, 2000), 1980, 2000):
                least = least_padding(program, period)
                self.assertEqual(least, least_by_trying(program, period))
                self.assertLess(least, period)

    def test_against_doubling(self):
        for program in deep_programs(617, 8):
            for period in (6, 30, 60):
                least = least_padding(program, period)
                for added in range(least + 1):
                    more = program + (('line', 'idle', added),) if added else program
                    columns = counts_by_doubling(more, gcd(size_of(more), period))[1].values()
                    self.assertIs(all(len(set(column)) == 1 for column in columns), added == least)

    def test_period_2000(self):
        for program in small_programs(618, 12) + [(('line', 'a', 1), ('line', 'b', 1999)), (('line', 'a', 2000),)]:
            self.assertEqual(least_padding(program, 2000), least_tick_by_tick(program, 2000))
        self.assertEqual(least_padding((('line', 'a', 1), ('line', 'b', 1999)), 2000), 1)
        self.assertEqual(least_padding((('line', 'a', 2000),), 2000), 0)

    def test_many_prime_divisors(self):
        # Lengths behind each of which only a further one has no divisor in common with 210.
        for size in (1, 2, 3, 109, 110, 199, 200, 201, 202, 209, 210, 211):
            program = (('line', 'a', 1), ('line', 'b', size))
            for period in (210, 420, 630, 1890):
                self.assertEqual(least_padding(program, period), least_tick_by_tick(program, period))

    def test_a_period_that_is_safe_needs_none(self):
        for program in small_programs(619, 40, longest=60):
            for period in range(1, 30):
                self.assertIs(least_padding(program, period) == 0, is_safe(program, period))
                self.assertIs(is_safe(padded(program, least_padding(program, period)), period), True)

    def test_somewhat_beyond_the_limit(self):
        program = (('line', 'a', 1), ('line', 'b', 2001))
        self.assertEqual(least_padding(program, 2002), 1)
        self.assertEqual(least_padding((('line', 'a', 2002),), 2002), 0)


class ArgumentTest(unittest.TestCase):

    def test_arguments_by_name(self):
        self.assertEqual(padded(ticks=1, program=PAIRS), PAIRS + (('line', 'idle', 1),))
        self.assertEqual(least_padding(period=2, program=HALF), 1)

    def test_no_argument_is_changed_and_equal_calls_agree(self):
        for program in small_programs(621, 10):
            before = copy.deepcopy(program)
            self.assertEqual(padded(program, 3), padded(program, 3))
            self.assertEqual(least_padding(program, 6), least_padding(program, 6))
            self.assertEqual(program, before)


if __name__ == '__main__':
    unittest.main()

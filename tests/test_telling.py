"""Point 11, and what point 4 says in (d)."""

import copy
import unittest
from math import gcd
from random import Random

from evensamples.errors import OtherLength, TooLarge, TooLong
from evensamples.telling import look_alike, telling, told_apart
from tests.cases import ErrorCase
from tests.samples import (LONG, MOST_ROUNDS, MOST_TICKS, PAIRS, SHORT, counts_by_doubling, deep_programs, divisors,
                           line_ticks, seen_shares, size_of, small_programs, ticks_one_by_one)

FAR = 10 ** 30
ONE = (('line', 'a', 1), ('line', 'b', 1), ('line', 'c', 1))
OTHER = (('line', 'b', 1), ('line', 'c', 1), ('line', 'a', 1))


def difference(ticks, other_ticks, period):
    """Return the least start and for it the least name with unequal seen shares, start by start and name by name."""
    for start in range(len(ticks)):
        seen = seen_shares(ticks, period, start)
        other_seen = seen_shares(other_ticks, period, start)
        for name in sorted(set(ticks + other_ticks)):
            if seen.get(name, 0) != other_seen.get(name, 0):
                return start, name
    return None


def telling_by_definition(ticks, other_ticks):
    apart = {divisor: difference(ticks, other_ticks, divisor) is not None for divisor in divisors(len(ticks))}
    return tuple(divisor for divisor in apart
                 if apart[divisor] and not any(apart[smaller] for smaller in divisors(divisor)[:-1]))


def written(ticks):
    """Return a program of lines with these ticks."""
    return tuple(('line', name, 1) for name in ticks)


def pairs_of_programs(seed, many, longest):
    """Return pairs of programs of equal length: written otherwise, turned, mixed, with other names and others."""
    rng = Random(seed)
    pairs = []
    for program in small_programs(seed, many, longest):
        ticks = ticks_one_by_one(program)
        turn = rng.randrange(len(ticks))
        mixed = ticks[:]
        rng.shuffle(mixed)
        changed = ticks[:]
        changed[rng.randrange(len(ticks))] = rng.choice('abcd')
        swapped = ticks[:]
        one, other = rng.randrange(len(ticks)), rng.randrange(len(ticks))
        swapped[one], swapped[other] = ticks[other], ticks[one]
        period = rng.choice(divisors(len(ticks)))
        # Ticks exchanged within the classes modulo a divisor of the length.
        within = ticks[:]
        for place in range(period):
            row = within[place::period]
            rng.shuffle(row)
            within[place::period] = row
        others = [ticks, ticks[turn:] + ticks[:turn], mixed, changed, swapped, within, ticks[::-1],
                  [{'a': 'b', 'b': 'a'}.get(name, name) for name in ticks],
                  [{'a': 'zz'}.get(name, name) for name in ticks]]
        pairs.extend((program, written(row)) for row in others)
        pairs.extend((written(row), program) for row in others[1:])
    return pairs


class ExampleTest(ErrorCase):

    def test_examples(self):
        self.assertEqual([look_alike(SHORT, PAIRS, 2), telling(SHORT, PAIRS), told_apart(SHORT, PAIRS, 4),
                          telling(SHORT, SHORT)], [True, (4,), (1, 'a'), ()])

    def test_further_examples(self):
        self.assertEqual([look_alike(ONE, OTHER, 2), look_alike(ONE, OTHER, 3), told_apart(ONE, OTHER, 6)],
                         [True, False, (0, 'a')])
        self.assert_raises_with(OtherLength, 'size', 3, telling, (('line', 'a', 1), ('line', 'b', 1)),
                                (('line', 'a', 3),))
        program = (('line', 'a', 4002),)
        self.assert_raises_with(TooLarge, 'divisor', 2001, look_alike, program, program, 2001)
        self.assertEqual(telling((('line', 'a', 2), ('line', 'b', 1)), (('line', 'a', 3),)), (1,))


class SmallProgramTest(ErrorCase):

    def test_look_alike_and_told_apart_against_the_definition(self):
        found = [0, 0]
        for one, other in pairs_of_programs(401, 30, longest=20):
            ticks, other_ticks = ticks_one_by_one(one), ticks_one_by_one(other)
            for period in range(1, len(ticks) + 3):
                expected = difference(ticks, other_ticks, period)
                found[expected is None] += 1
                self.assertEqual(told_apart(one, other, period), expected)
                self.assertIs(look_alike(one, other, period), expected is None)
        self.assertGreater(min(found), 500)

    def test_telling_against_the_divisors_one_by_one(self):
        found = {}
        for one, other in pairs_of_programs(402, 40, longest=36):
            expected = telling_by_definition(ticks_one_by_one(one), ticks_one_by_one(other))
            self.assertEqual(telling(one, other), expected)
            found[len(expected)] = found.get(len(expected), 0) + (expected != (1,))
        self.assertGreater(min(found[0], found[1], found[2]), 5)

    def test_programs_look_alike_exactly_if_nothing_telling_divides_the_period(self):
        rng = Random(403)
        for one, other in pairs_of_programs(404, 30, longest=40):
            least = telling(one, other)
            for period in list(range(1, 25)) + [size_of(one), rng.randint(1, FAR), FAR - FAR % size_of(one), FAR]:
                alike = all(period % divisor for divisor in least)
                self.assertIs(look_alike(one, other, period), alike)
                self.assertIs(told_apart(one, other, period) is None, alike)

    def test_unequal_totals(self):
        for one, other in pairs_of_programs(405, 25, longest=40):
            same = line_ticks(one) == line_ticks(other)
            self.assertIs(telling(one, other) == (1,), not same)
            self.assertIs(look_alike(one, other, 1), same)

    def test_several_telling_divisors(self):
        one = written('aabbbb')
        self.assertEqual(telling(one, written('ababbb')), (2, 3))
        self.assertEqual(telling(one, written('abbbba')), (3,))
        self.assertEqual(telling(one, written('abbbab')), (2,))
        self.assertEqual(telling(one, written('bbbaab')), (6,))

    def test_a_name_that_is_a_line_of_one_of_them_alone(self):
        one, other = written('abab'), written('abac')
        self.assertEqual([told_apart(one, other, 1), told_apart(one, other, 2), told_apart(one, other, 4)],
                         [(0, 'b'), (1, 'b'), (3, 'b')])
        self.assertEqual([told_apart(other, one, 1), told_apart(other, one, 2), told_apart(other, one, 4)],
                         [(0, 'b'), (1, 'b'), (3, 'b')])
        self.assertEqual(told_apart(written('bcc'), written('acc'), 3), (0, 'a'))
        self.assertEqual(told_apart(written('bcc'), written('dcc'), 3), (0, 'b'))
        self.assertIs(look_alike(written('a'), written('b'), 1), False)
        self.assertEqual(telling(written('ab'), written('cd')), (1,))

    def test_the_least_start_counts_more_than_the_least_name(self):
        self.assertEqual(told_apart(written('bcaa'), written('cbaa'), 4), (0, 'b'))
        self.assertEqual(told_apart(written('bcab'), written('bbca'), 4), (1, 'b'))
        self.assertEqual(told_apart(written('zzaz'), written('zzza'), 4), (2, 'a'))

    def test_one_and_other_exchanged(self):
        for one, other in pairs_of_programs(406, 15, longest=30):
            self.assertEqual(telling(one, other), telling(other, one))
            for period in range(1, 13):
                self.assertEqual(told_apart(one, other, period), told_apart(other, one, period))


class LargeProgramTest(ErrorCase):

    def test_the_same_ticks_written_otherwise(self):
        for program in deep_programs(411, 12) + [LONG]:
            size = size_of(program)
            again = (('loop', 1, program),)
            for period in [divisor for divisor in range(1, 300) if size % divisor == 0][-5:] + [7 ** 35]:
                if gcd(period, size) <= 2000:
                    self.assertIs(look_alike(program, again, period), True)
                    self.assertIsNone(told_apart(program, again, period))

    def test_against_doubling(self):
        rng = Random(412)
        found = [0, 0]
        for program in deep_programs(413, 20):
            size = size_of(program)
            turned = program[1:] + program[:1]
            for period in [divisor for divisor in range(1, 61) if size % divisor == 0]:
                factor = rng.choice((1, 10 ** 9 + 7, 10 ** 28 + 1))
                if gcd(period * factor, size) != period:
                    continue
                counts, other_counts = (counts_by_doubling(items, period)[1] for items in (program, turned))
                unlike = [(place, name) for place in range(period) for name in sorted(counts)
                          if counts[name][place] != other_counts[name][place]]
                found[not unlike] += 1
                self.assertEqual(told_apart(program, turned, period * factor), unlike[0] if unlike else None)
                self.assertIs(look_alike(program, turned, period * factor), not unlike)
        self.assertGreater(min(found), 10)

    def test_loops_of_many_rounds(self):
        one = (('loop', MOST_ROUNDS, (('line', 'a', 1), ('line', 'b', 2))),)
        other = (('loop', MOST_ROUNDS, (('line', 'b', 1), ('line', 'a', 1), ('line', 'b', 1))),)
        self.assertEqual([look_alike(one, other, period) for period in (1, 2, 3, 5, 6, 7 ** 35, 3 * 7 ** 34)],
                         [True, True, False, True, False, True, False])
        self.assertEqual(told_apart(one, other, 3 * 7 ** 34), (0, 'a'))
        self.assert_raises_with(TooLong, 'size', 3 * 10 ** 18, telling, one, other)


class ErrorTest(ErrorCase):

    def test_other_length(self):
        for one in small_programs(421, 12, longest=30) + [LONG, (('line', 'a', MOST_TICKS),)]:
            for other in small_programs(422, 12, longest=30) + [LONG + LONG, (('line', 'a', 2001),)]:
                size = size_of(other)
                if size_of(one) != size:
                    for period in (1, 2, 2001, FAR):
                        self.assert_raises_with(OtherLength, 'size', size, look_alike, one, other, period)
                        self.assert_raises_with(OtherLength, 'size', size, told_apart, one, other, period)
                    self.assert_raises_with(OtherLength, 'size', size, telling, one, other)

    def test_other_length_comes_first(self):
        one, other = (('line', 'a', 4002),), (('line', 'a', 6003),)
        for call in (look_alike, told_apart):
            self.assert_raises_with(OtherLength, 'size', 6003, call, one, other, 2001)
            self.assert_raises_with(OtherLength, 'size', 4002, call, other, one, 2001)
            self.assert_raises_with(TooLarge, 'divisor', 2001, call, one, one, 2001)
        self.assert_raises_with(OtherLength, 'size', 6003, telling, one, other)
        self.assert_raises_with(OtherLength, 'size', 4, telling, one, SHORT)
        self.assert_raises_with(OtherLength, 'size', 4002, telling, SHORT, one)

    def test_divisors_2000_and_2001(self):
        for size in (2000, 2001, 4000, 4002, 2000 * 2001):
            one = (('line', 'a', 1), ('line', 'b', size - 1))
            other = (('line', 'b', size - 1), ('line', 'a', 1))
            for period in (1999, 2000, 2001, 4000, 4002, 2001 * 3 ** 50, 2000 * 7 ** 30):
                common = gcd(size, period)
                for call in (look_alike, told_apart):
                    if common > 2000:
                        self.assert_raises_with(TooLarge, 'divisor', common, call, one, other, period)
                        self.assert_raises_with(TooLarge, 'divisor', common, call, one, one, period)
                self.assertTrue(common > 2000 or look_alike(one, one, period))
                if common in (1, 2000):
                    self.assertEqual(told_apart(one, other, period), None if common == 1 else (0, 'a'))

    def test_lengths_2000_and_2001(self):
        one, other = (('line', 'a', 1), ('line', 'b', 1999)), (('line', 'b', 1999), ('line', 'a', 1))
        self.assertEqual([telling(one, other), telling(one, one), telling(one, (('line', 'b', 2000),))],
                         [(2, 5), (), (1,)])
        one, other = one + (('line', 'a', 1),), other + (('line', 'a', 1),)
        self.assert_raises_with(TooLong, 'size', 2001, telling, one, other)
        self.assert_raises_with(TooLong, 'size', 2001, telling, one, one)
        self.assert_raises_with(TooLong, 'size', 2001, telling, one, (('line', 'c', 2001),))


class ArgumentTest(ErrorCase):

    def test_arguments_by_name(self):
        self.assertIs(look_alike(period=2, other=PAIRS, one=SHORT), True)
        self.assertEqual(told_apart(period=4, other=PAIRS, one=SHORT), (1, 'a'))
        self.assertEqual(telling(other=PAIRS, one=SHORT), (4,))
        self.assert_raises_with(OtherLength, 'size', 3, lambda: telling(other=ONE, one=SHORT))

    def test_no_argument_is_changed_and_equal_calls_agree(self):
        for one, other in pairs_of_programs(431, 4, longest=30):
            before = copy.deepcopy((one, other))
            for call in (lambda: look_alike(one, other, 6), lambda: told_apart(one, other, 6),
                         lambda: telling(one, other)):
                self.assertEqual(call(), call())
            self.assertEqual((one, other), before)

    def test_kinds_of_values(self):
        self.assertIs(type(look_alike(SHORT, PAIRS, 4)), bool)
        self.assertEqual([type(part) for part in told_apart(SHORT, PAIRS, 4)], [int, str])
        self.assertEqual([type(told_apart(SHORT, PAIRS, 4)), type(telling(SHORT, PAIRS))], [tuple, tuple])
        self.assertEqual([type(divisor) for divisor in telling(SHORT, PAIRS)], [int])

    def test_programs_beyond_the_limits_as_padding_makes_them(self):
        program = (('line', 'a', 1),) * 20 + (('line', 'idle', 1),)
        self.assertEqual(telling(program, (('line', 'idle', 1), ('line', 'a', 20))), (3, 7))


if __name__ == '__main__':
    unittest.main()

"""Point 5 except is_program."""

import copy
import unittest
from random import Random

from evensamples.errors import NoLine, NoTick, TooLong
from evensamples.programs import expanded, length, line_at, lines_of, nth_tick, totals, totals_between
from tests.cases import ErrorCase
from tests.samples import (HALF, LONG, MOST_ROUNDS, MOST_TICKS, PAIRS, SHORT, any_values, deep_programs, line_ticks,
                           place_on_a_path, size_of, small_programs, ticks_one_by_one)


def is_number_below(value, stop):
    return type(value) is int and 0 <= value < stop


class ExampleTest(ErrorCase):

    def test_examples(self):
        self.assertEqual([length(LONG), line_at(LONG, 3), totals(SHORT)],
                         [3000000000000000001, 'c', (('a', 2), ('b', 2))])
        self.assertEqual([totals_between(SHORT, 1, 3), nth_tick(SHORT, 'a', 1)], [(('a', 0), ('b', 2)), 3])
        self.assert_raises_with(NoTick, 'value', 4, line_at, SHORT, 4)

    def test_further_examples(self):
        program = (('loop', 2, (('line', 'b', 1), ('line', 'a', 1))),)
        self.assertEqual([lines_of(program), expanded(program)], [('a', 'b'), ('b', 'a', 'b', 'a')])
        self.assert_raises_with(TooLong, 'size', 2001, expanded, (('line', 'a', 2001),))
        self.assert_raises_with(NoLine, 'value', 'b', nth_tick, (('line', 'a', 1),), 'b', 0)
        program = (('loop', 10 ** 18, (('line', 'a', 1), ('line', 'b', 2))),)
        self.assertEqual(nth_tick(program, 'a', 10 ** 17), 300000000000000000)


class SmallProgramTest(ErrorCase):

    def test_length_lines_and_ticks(self):
        for program in small_programs(3, 300):
            ticks = ticks_one_by_one(program)
            self.assertEqual(length(program), len(ticks))
            self.assertEqual(lines_of(program), tuple(sorted(set(ticks))))
            self.assertEqual(expanded(program), tuple(ticks))
            self.assertEqual([line_at(program, tick) for tick in range(len(ticks))], ticks)

    def test_totals(self):
        for program in small_programs(4, 300):
            ticks = ticks_one_by_one(program)
            self.assertEqual(totals(program), tuple((name, ticks.count(name)) for name in sorted(set(ticks))))

    def test_totals_between(self):
        for program in small_programs(5, 60, longest=30):
            ticks = ticks_one_by_one(program)
            names = sorted(set(ticks))
            for first in range(len(ticks) + 1):
                for stop in range(first, len(ticks) + 1):
                    expected = tuple((name, ticks[first:stop].count(name)) for name in names)
                    self.assertEqual(totals_between(program, first, stop), expected)

    def test_nth_tick(self):
        for program in small_programs(6, 300):
            ticks = ticks_one_by_one(program)
            for name in sorted(set(ticks)):
                places = [tick for tick, other in enumerate(ticks) if other == name]
                self.assertEqual([nth_tick(program, name, number) for number in range(len(places))], places)
                self.assert_raises_with(NoTick, 'value', len(places), nth_tick, program, name, len(places))
                self.assert_raises_with(NoTick, 'value', -1, nth_tick, program, name, -1)

    def test_names_are_sorted_as_strings(self):
        program = (('line', 'b', 1), ('line', 'ab', 2), ('loop', 2, (('line', 'a', 3), ('line', 'aaaaaaaa', 1))))
        self.assertEqual(lines_of(program), ('a', 'aaaaaaaa', 'ab', 'b'))
        self.assertEqual(totals(program), (('a', 6), ('aaaaaaaa', 2), ('ab', 2), ('b', 1)))
        self.assertEqual(totals_between(program, 1, 1), (('a', 0), ('aaaaaaaa', 0), ('ab', 0), ('b', 0)))


class DeepProgramTest(ErrorCase):

    def test_length_and_totals(self):
        for program in deep_programs(7, 50):
            sums = line_ticks(program)
            self.assertEqual(length(program), size_of(program))
            self.assertEqual(lines_of(program), tuple(sorted(sums)))
            self.assertEqual(totals(program), tuple(sorted(sums.items())))
            self.assertEqual(totals_between(program, 0, size_of(program)), tuple(sorted(sums.items())))

    def test_length_of_five_loops_with_the_most_rounds(self):
        program = deep_programs(7, 4)[3]
        self.assertEqual(length(program), 10 ** 90 * (10 ** 12 + 1))
        self.assertEqual(totals(program), (('a', 10 ** 90), ('b', 10 ** 102)))

    def test_ticks_on_paths_into_the_loops(self):
        rng = Random(8)
        for program in deep_programs(9, 50):
            for turn in range(30):
                tick, name, ahead = place_on_a_path(program, rng)
                self.assertEqual(line_at(program, tick), name)
                self.assertEqual(nth_tick(program, name, ahead[name]), tick)
                self.assertEqual(totals_between(program, 0, tick), tuple(sorted(ahead.items())))
                self.assertEqual(totals_between(program, tick, tick + 1),
                                 tuple((other, int(other == name)) for other in sorted(ahead)))

    def test_totals_between_two_places(self):
        rng = Random(10)
        for program in deep_programs(11, 30):
            for turn in range(10):
                first, stop = sorted([place_on_a_path(program, rng) for end in range(2)], key=lambda place: place[0])
                expected = tuple((name, stop[2][name] - first[2][name]) for name in sorted(first[2]))
                self.assertEqual(totals_between(program, first[0], stop[0]), expected)

    def test_first_and_last_tick(self):
        for program in deep_programs(12, 30):
            size = length(program)
            first = program[0][1] if program[0][0] == 'line' else 'a'
            self.assertEqual(line_at(program, 0), first)
            self.assertEqual(nth_tick(program, first, 0), 0)
            last = program[-1][1] if program[-1][0] == 'line' else 'b'
            self.assertEqual(line_at(program, size - 1), last)
            self.assertEqual(nth_tick(program, last, dict(totals(program))[last] - 1), size - 1)
            for tick in (size, -1, 2 * size):
                self.assert_raises_with(NoTick, 'value', tick, line_at, program, tick)

    def test_ends_of_rounds(self):
        one = 10 ** 12 + 1
        program = deep_programs(7, 4)[3]
        for level in range(6):
            size = one * MOST_ROUNDS ** level
            for turn in (1, 2, 12345678901, MOST_ROUNDS - 1, MOST_ROUNDS):
                if level == 5 and turn > 1:
                    continue
                end = turn * size
                self.assertEqual(line_at(program, end - 1), 'b')
                self.assertEqual(nth_tick(program, 'b', end // one * MOST_TICKS - 1), end - 1)
                self.assertEqual(totals_between(program, 0, end),
                                 (('a', end // one), ('b', end // one * MOST_TICKS)))
                self.assertEqual(totals_between(program, end - 1, end), (('a', 0), ('b', 1)))
                if end < length(program):
                    self.assertEqual([line_at(program, end), line_at(program, end + 1)], ['a', 'b'])
                    self.assertEqual(nth_tick(program, 'a', end // one), end)
                    self.assertEqual(nth_tick(program, 'b', end // one * MOST_TICKS), end + 1)

    def test_long_lines(self):
        program = (('line', 'a', MOST_TICKS), ('line', 'b', MOST_TICKS), ('line', 'a', MOST_TICKS))
        self.assertEqual([line_at(program, tick) for tick in (0, MOST_TICKS - 1, MOST_TICKS, 2 * MOST_TICKS)],
                         ['a', 'a', 'b', 'a'])
        self.assertEqual(nth_tick(program, 'a', MOST_TICKS), 2 * MOST_TICKS)
        self.assertEqual(totals_between(program, MOST_TICKS - 1, 2 * MOST_TICKS + 2), (('a', 3), ('b', MOST_TICKS)))

    def test_programs_somewhat_beyond_the_limits(self):
        program = (('line', 'a', MOST_TICKS + 1),) * 20 + (('line', 'idle', 5),)
        self.assertEqual(length(program), 20 * (MOST_TICKS + 1) + 5)
        self.assertEqual(lines_of(program), ('a', 'idle'))
        self.assertEqual(nth_tick(program, 'idle', 4), length(program) - 1)


class WrongValueTest(ErrorCase):

    def test_line_at_with_any_value(self):
        for program in (SHORT, LONG, (('line', 'a', 1),)):
            size = length(program)
            for value in any_values() + [size - 1, size, size + 1, -size, (size - 1,), str(size - 1)]:
                if is_number_below(value, size):
                    self.assertIn(line_at(program, value), lines_of(program))
                else:
                    self.assert_raises_with(NoTick, 'value', value, line_at, program, value)

    def test_nth_tick_with_any_value(self):
        for program in (SHORT, LONG, (('line', 'a', 1),)):
            for name in any_values():
                for number in any_values() + [10 ** 18 - 1, 2 * 10 ** 18 - 1, 2 * 10 ** 18]:
                    if name not in lines_of(program):
                        self.assert_raises_with(NoLine, 'value', name, nth_tick, program, name, number)
                    elif not is_number_below(number, dict(totals(program))[name]):
                        self.assert_raises_with(NoTick, 'value', number, nth_tick, program, name, number)
                    else:
                        self.assertEqual(line_at(program, nth_tick(program, name, number)), name)

    def test_the_very_value_is_kept(self):
        value = [{'a': (1, [])}]
        for call, field in ((lambda: line_at(SHORT, value), NoTick), (lambda: nth_tick(SHORT, value, 0), NoLine),
                            (lambda: nth_tick(SHORT, 'a', value), NoTick)):
            with self.assertRaises(field) as caught:
                call()
            self.assertIs(caught.exception.value, value)
        self.assertEqual(value, [{'a': (1, [])}])

    def test_no_line_comes_ahead_of_no_tick(self):
        self.assert_raises_with(NoLine, 'value', 'c', nth_tick, SHORT, 'c', -1)
        self.assert_raises_with(NoLine, 'value', None, nth_tick, SHORT, None, None)
        self.assert_raises_with(NoTick, 'value', 2, nth_tick, SHORT, 'a', 2)
        self.assert_raises_with(NoTick, 'value', True, nth_tick, SHORT, 'a', True)

    def test_expanded_at_its_limit(self):
        for program in ((('line', 'a', 2000),), (('loop', 1000, (('line', 'a', 1), ('line', 'b', 1))),),
                        (('loop', 10, (('loop', 10, (('loop', 20, (('line', 'c', 1),)),)),)),)):
            self.assertEqual(expanded(program), tuple(ticks_one_by_one(program)))
            self.assert_raises_with(TooLong, 'size', 2001, expanded, program + (('line', 'd', 1),))
        self.assert_raises_with(TooLong, 'size', length(LONG), expanded, LONG)
        self.assert_raises_with(TooLong, 'size', 10 ** 102 + 10 ** 90, expanded, deep_programs(7, 4)[3])


class ArgumentTest(ErrorCase):

    def test_arguments_by_name(self):
        self.assertEqual(length(program=HALF), 6)
        self.assertEqual(lines_of(program=HALF), ('a', 'b'))
        self.assertEqual(line_at(tick=3, program=HALF), 'b')
        self.assertEqual(totals(program=PAIRS), (('a', 2), ('b', 2)))
        self.assertEqual(totals_between(stop=5, first=2, program=HALF), (('a', 1), ('b', 2)))
        self.assertEqual(nth_tick(number=1, name='b', program=HALF), 4)
        self.assertEqual(expanded(program=PAIRS), ('a', 'a', 'b', 'b'))

    def test_no_argument_is_changed(self):
        for value in any_values():
            before = copy.deepcopy(value)
            for call in (lambda: line_at(SHORT, value), lambda: nth_tick(SHORT, value, value),
                         lambda: nth_tick(SHORT, 'a', value)):
                try:
                    call()
                except (NoTick, NoLine):
                    pass
            self.assertEqual(value, before)

    def test_equal_calls_return_equal_results(self):
        for program in small_programs(13, 20) + deep_programs(14, 5):
            self.assertEqual(totals(program), totals(program))
            self.assertEqual(totals_between(program, 1, length(program)), totals_between(program, 1, length(program)))

    def test_kinds_of_values(self):
        for program in small_programs(15, 20):
            self.assertIs(type(length(program)), int)
            self.assertIs(type(lines_of(program)), tuple)
            self.assertIs(type(expanded(program)), tuple)
            for pairs in (totals(program), totals_between(program, 0, 1)):
                self.assertIs(type(pairs), tuple)
                for pair in pairs:
                    self.assertEqual([type(pair), type(pair[0]), type(pair[1])], [tuple, str, int])


if __name__ == '__main__':
    unittest.main()

"""Point 8, and what point 4 says of classes in (b) and (c)."""

import copy
import unittest
from random import Random

from evensamples.classes import class_table, is_even, shows_uneven, uneven_pair
from evensamples.programs import expanded, length, lines_of, totals
from tests.samples import (HALF, LONG, MOST_ROUNDS, MOST_TICKS, PAIRS, SHORT, any_values, counts_by_doubling,
                           deep_programs, divisors, small_programs, ticks_one_by_one)


def table_tick_by_tick(program, modulus):
    ticks = ticks_one_by_one(program)
    names = sorted(set(ticks))
    rows = [[0] * len(names) for place in range(modulus)]
    for tick, name in enumerate(ticks):
        rows[tick % modulus][names.index(name)] += 1
    return tuple(tuple(row) for row in rows)


def table_by_doubling(program, modulus):
    counts = counts_by_doubling(program, modulus)[1]
    return tuple(tuple(counts[name][place] for name in sorted(counts)) for place in range(modulus))


class ClassCase(unittest.TestCase):

    def assert_table(self, program, modulus, table):
        """Check all that follows from a table, which is counted in another way."""
        self.assertEqual(class_table(program, modulus), table)
        even = all(row == table[0] for row in table)
        self.assertIs(is_even(program, modulus), even)
        pair = uneven_pair(program, modulus)
        self.assertIs(pair is None, even)
        self.assertIs(shows_uneven(program, modulus, pair), not even)
        if pair is not None:
            self.assertEqual([type(pair)] + [type(part) for part in pair], [tuple, str, int, int])
            name, low, high = pair
            at = lines_of(program).index(name)
            self.assertTrue(0 <= low < modulus and 0 <= high < modulus)
            self.assertLess(table[low][at], table[high][at])


class ExampleTest(unittest.TestCase):

    def test_examples(self):
        self.assertEqual([class_table(SHORT, 3), is_even(SHORT, 2), is_even(SHORT, 4), uneven_pair(SHORT, 2)],
                         [((2, 0), (0, 1), (0, 1)), True, False, None])
        self.assertEqual([shows_uneven(SHORT, 4, ('a', 1, 0)), shows_uneven(SHORT, 4, ('a', 0, 1)),
                          shows_uneven(SHORT, 4, uneven_pair(SHORT, 4))], [True, False, True])

    def test_further_examples(self):
        self.assertEqual(class_table((('loop', 10 ** 18, (('line', 'a', 1), ('line', 'b', 2))),), 2),
                         ((500000000000000000, 1000000000000000000), (500000000000000000, 1000000000000000000)))
        four = (('line', 'a', 4),)
        self.assertEqual([is_even(four, 2), is_even(four, 3), is_even(four, 1)], [True, False, True])


class SmallProgramTest(ClassCase):

    def test_moduli_up_to_beyond_the_length(self):
        for program in small_programs(21, 60, longest=40):
            for modulus in range(1, len(expanded(program)) + 4):
                self.assert_table(program, modulus, table_tick_by_tick(program, modulus))

    def test_longer_programs(self):
        rng = Random(22)
        for program in small_programs(23, 150):
            size = len(expanded(program))
            for modulus in [rng.choice(divisors(size)), size, size + 1, 2 * size, rng.randint(1, 2 * size)]:
                self.assert_table(program, modulus, table_tick_by_tick(program, modulus))

    def test_modulus_1_is_always_even(self):
        for program in small_programs(24, 50) + deep_programs(25, 10):
            self.assertIs(is_even(program, 1), True)
            self.assertEqual(class_table(program, 1), (tuple(ticks for name, ticks in totals(program)),))

    def test_even_programs_with_several_lines(self):
        program = (('loop', 6, (('line', 'a', 6), ('line', 'b', 12), ('loop', 6, (('line', 'c', 1), ('line', 'd', 6))))),)
        for modulus in (1, 2, 3, 6):
            self.assert_table(program, modulus, table_tick_by_tick(program, modulus))
            self.assertIs(is_even(program, modulus), True)
        self.assertIs(is_even(program, 12), False)

    def test_modulus_2000(self):
        for program in small_programs(26, 8) + [(('line', 'a', 2000),), (('line', 'a', 1999), ('line', 'b', 1)),
                                                (('loop', 1000, (('line', 'a', 2), ('line', 'b', 2))),)]:
            self.assert_table(program, 2000, table_tick_by_tick(program, 2000))
        self.assertIs(is_even((('line', 'a', 4000),), 2000), True)
        self.assertIs(is_even((('line', 'a', 4001),), 2000), False)


class DeepProgramTest(ClassCase):

    def test_against_doubling(self):
        rng = Random(27)
        for program in deep_programs(28, 40):
            for modulus in (2, 3, 10, rng.randint(4, 60), rng.choice((16, 32, 64, 25, 50, 100))):
                self.assert_table(program, modulus, table_by_doubling(program, modulus))

    def test_modulus_2000(self):
        for program in deep_programs(29, 7):
            self.assert_table(program, 2000, table_by_doubling(program, 2000))

    def test_long_example(self):
        self.assertEqual(class_table(LONG, 3), ((1, 0, 10 ** 18), (0, 10 ** 18, 0), (0, 10 ** 18, 0)))
        self.assert_table(LONG, 2000, table_by_doubling(LONG, 2000))

    def test_long_lines(self):
        program = (('line', 'a', MOST_TICKS), ('line', 'b', MOST_TICKS - 1), ('line', 'c', 1))
        self.assertEqual(class_table(program, 7), table_by_doubling(program, 7))
        self.assertEqual(class_table(program, 2), ((5 * 10 ** 11, 5 * 10 ** 11, 0), (5 * 10 ** 11, 5 * 10 ** 11 - 1, 1)))

    def test_many_loops_side_by_side(self):
        inner = tuple(('line', name, ticks) for name, ticks in zip('abcdefghijklmnopqrs', range(1, 20)))
        program = tuple(('loop', MOST_ROUNDS - rounds, inner) for rounds in range(3))
        for modulus in (19, 190, 1999):
            self.assert_table(program, modulus, table_by_doubling(program, modulus))

    def test_columns_add_up_to_the_totals(self):
        for program in deep_programs(30, 30):
            for modulus in (1, 9, 1000, 2000, 2001):
                table = class_table(program, modulus)
                sums = tuple(sum(column) for column in zip(*table))
                self.assertEqual(sums, tuple(ticks for name, ticks in totals(program)))
                for place, row in enumerate(table):
                    self.assertEqual(sum(row), (length(program) - place - 1) // modulus + 1)


class DivisorTest(unittest.TestCase):

    def test_even_programs_are_even_modulo_every_divisor(self):
        even = [(('loop', 12, (('line', 'a', 3), ('line', 'b', 4))),), (('loop', 10 ** 18, (('line', 'a', 7),)),),
                (('loop', 30, (('loop', 12, (('line', 'a', 5), ('line', 'b', 2))), ('line', 'c', 60))),)]
        found = 0
        for program in small_programs(31, 60, longest=60) + even + deep_programs(32, 10):
            for modulus in range(2, 61):
                if is_even(program, modulus):
                    found += 1
                    self.assertTrue(all(is_even(program, divisor) for divisor in divisors(modulus)))
        self.assertGreater(found, 60)


class ShowsUnevenTest(unittest.TestCase):

    def shown(self, program, modulus, value):
        """Return what shows_uneven must return, by counting tick by tick."""
        if type(value) is not tuple or len(value) != 3 or value[0] not in lines_of(program):
            return False
        if not all(type(place) is int and 0 <= place < modulus for place in value[1:]):
            return False
        at = lines_of(program).index(value[0])
        table = table_tick_by_tick(program, modulus)
        return table[value[1]][at] < table[value[2]][at]

    def test_all_small_tuples(self):
        for program in (SHORT, HALF, PAIRS, (('loop', 2, (('line', 'b', 3), ('line', 'a', 1))), ('line', 'c', 3))):
            for modulus in (1, 2, 3, 4, 5, 13):
                places = list(range(-1, modulus + 2)) + [-modulus, True, False]
                for name in ('a', 'b', 'c', 'd'):
                    for low in places:
                        for high in places:
                            value = (name, low, high)
                            self.assertIs(shows_uneven(program, modulus, value), self.shown(program, modulus, value))

    def test_any_value(self):
        for program, modulus in ((SHORT, 4), (SHORT, 2), (HALF, 3), (LONG, 3)):
            for value in any_values():
                if program != LONG:
                    self.assertIs(shows_uneven(program, modulus, value), self.shown(program, modulus, value))
                elif value != ('a', 0, 1):
                    self.assertIs(shows_uneven(program, modulus, value), False)

    def test_a_pair_with_a_part_changed(self):
        for program in small_programs(33, 25, longest=30):
            pair = uneven_pair(program, 7)
            if pair is None:
                continue
            self.assertIs(shows_uneven(program, 7, pair), True)
            self.assertIs(shows_uneven(program, 7, (pair[0], pair[2], pair[1])), False)
            for wrong in (list(pair), pair[:2], pair[1:], pair + (0,), (pair,), [pair], {0: pair}, pair[::-1]):
                self.assertIs(shows_uneven(program, 7, wrong), False)
            for at in range(3):
                for other in any_values() + [7, 6, 5, (pair[at],), [pair[at]], str(pair[at])]:
                    value = pair[:at] + (other,) + pair[at + 1:]
                    self.assertIs(shows_uneven(program, 7, value), self.shown(program, 7, value))

    def test_booleans_are_not_classes(self):
        self.assertIs(shows_uneven(SHORT, 4, ('a', 1, 0)), True)
        self.assertIs(shows_uneven(SHORT, 4, ('a', True, 0)), False)
        self.assertIs(shows_uneven(SHORT, 4, ('a', 1, False)), False)
        self.assertIs(shows_uneven(SHORT, 4, ('a', True, False)), False)

    def test_classes_out_of_range(self):
        self.assertIs(shows_uneven(SHORT, 3, ('a', 2, 0)), True)
        for value in (('a', 3, 0), ('a', -1, 0), ('a', 2, -3), ('a', 2, 3), ('a', 10 ** 400, 0), ('a', 2, -10 ** 400)):
            self.assertIs(shows_uneven(SHORT, 3, value), False)

    def test_deep_programs(self):
        for program in deep_programs(34, 20):
            for modulus in (11, 2000):
                pair = uneven_pair(program, modulus)
                self.assertIs(shows_uneven(program, modulus, pair), pair is not None)


class ArgumentTest(unittest.TestCase):

    def test_arguments_by_name(self):
        self.assertEqual(class_table(modulus=3, program=SHORT), ((2, 0), (0, 1), (0, 1)))
        self.assertIs(is_even(modulus=2, program=SHORT), True)
        self.assertIsNone(uneven_pair(modulus=2, program=SHORT))
        self.assertIs(shows_uneven(value=('a', 1, 0), modulus=4, program=SHORT), True)

    def test_no_argument_is_changed(self):
        for value in any_values():
            before = copy.deepcopy(value)
            shows_uneven(SHORT, 4, value)
            shows_uneven(SHORT, 4, ('a', value, 0))
            self.assertEqual(value, before)

    def test_kinds_of_values(self):
        table = class_table(LONG, 5)
        self.assertIs(type(table), tuple)
        for row in table:
            self.assertEqual([type(row)] + [type(count) for count in row], [tuple, int, int, int])
        self.assertEqual(class_table(LONG, 5), table)


if __name__ == '__main__':
    unittest.main()

"""Point 4 over the whole package: what the functions, a bench and a desk say of one program fits together."""

import unittest
from fractions import Fraction
from math import gcd
from random import Random

from evensamples.bench import Bench
from evensamples.bias import most_biased, seen_share, share
from evensamples.classes import class_table, is_even, shows_uneven, uneven_pair
from evensamples.desk import Desk
from evensamples.errors import TooLarge
from evensamples.flat import flat_looks
from evensamples.looks import look_count, looks, seen
from evensamples.padding import least_padding, padded
from evensamples.programs import (expanded, is_program, length, line_at, lines_of, nth_tick, totals, totals_between)
from evensamples.safety import blockers, count_safe, density, is_blocker, is_safe, next_safe, nth_safe
from evensamples.telling import look_alike, telling, told_apart
from evensamples.texts import read_program, show_program
from tests.cases import outcome
from tests.samples import (LONG, MOST_ROUNDS, deep_programs, divisors, size_of, small_programs, ticks_one_by_one,
                           wide_programs)

FAR = 10 ** 30


def written_otherwise(program, rng):
    """Return programs with the same ticks: written tick by tick, in one loop, with lines cut in two."""
    others = [tuple(('line', name, 1) for name in ticks_one_by_one(program)), (('loop', 1, program),),
              read_program(show_program(program))]
    cut = []
    for item in program:
        if item[0] == 'line' and item[2] > 1:
            first = rng.randint(1, item[2] - 1)
            cut.extend([('line', item[1], first), ('line', item[1], item[2] - first)])
        elif item[0] == 'loop' and item[1] > 1:
            cut.extend([('loop', item[1] - 1, item[2]), ('loop', 1, item[2])])
        else:
            cut.append(item)
    return others + [tuple(cut)]


def turned(program, by):
    """Return a program that begins with the tick with this number and goes round."""
    ticks = ticks_one_by_one(program)
    return tuple(('line', name, 1) for name in ticks[by:] + ticks[:by])


def answers(program):
    """Return what the package says of the ticks of a small program."""
    size = length(program)
    periods = list(range(1, 9)) + [size, 2 * size, 1999]
    names = lines_of(program)
    return [
        size, names, totals(program), totals_between(program, size // 3, size - 1), expanded(program),
        [line_at(program, tick) for tick in range(size)], [nth_tick(program, name, 0) for name in names],
        [(look_count(program, period, 1), looks(program, period, 1), seen(program, period, 5, 100)) for period in periods],
        [(class_table(program, period), is_even(program, period)) for period in periods],
        [(is_safe(program, period), least_padding(program, period)) for period in periods],
        blockers(program), density(program), [count_safe(program, most) for most in (0, 7, FAR)],
        [next_safe(program, bound) for bound in (1, 7, FAR)], [nth_safe(program, number) for number in (0, 7, FAR)],
        [share(program, name) for name in names],
        [(seen_share(program, period, 3, name), most_biased(program, period, name)) for period in periods for name in names],
    ]


class SafeTest(unittest.TestCase):

    def test_safe_exactly_if_even_with_two_classes_to_show_it_if_not(self):
        found = [0, 0]
        rng = Random(1001)
        for program in small_programs(1002, 60) + deep_programs(1003, 10) + wide_programs(1004) + [LONG]:
            size = length(program)
            for period in (2, 3, 4, 6, 30, rng.randint(1, 2000), rng.randint(1, FAR)):
                common = gcd(period, size)
                if common > 2000:
                    self.assertEqual(outcome(is_safe, program, period), (TooLarge, {'divisor': common}))
                    continue
                safe = is_safe(program, period)
                found[safe] += 1
                pair = uneven_pair(program, common)
                self.assertEqual([is_even(program, common), pair is None, shows_uneven(program, common, pair)],
                                 [safe, safe, not safe])
                if not safe:
                    # A sampler that starts in either class sees the line with unequal shares.
                    name, low, high = pair
                    seen_low = Fraction(*seen_share(program, period, low, name))
                    seen_high = Fraction(*seen_share(program, period, high + 5 * common, name))
                    self.assertLess(seen_low, seen_high)
                    self.assertTrue(most_biased(program, period, name)[1] != (0, 1))
        self.assertGreater(min(found), 50)

    def test_safe_periods_against_shares_and_bias(self):
        found = [0, 0]
        for program in small_programs(1005, 50, longest=48):
            size = length(program)
            for period in range(1, size + 4):
                rows = [[seen_share(program, period, start, name) for name in lines_of(program)] for start in range(size)]
                right = [share(program, name) for name in lines_of(program)]
                safe = is_safe(program, period)
                found[safe] += 1
                self.assertIs(all(row == right for row in rows), safe)
                self.assertIs(all(most_biased(program, period, name) == (0, (0, 1)) for name in lines_of(program)), safe)
                self.assertIs(any(period % blocker == 0 for blocker in blockers(program)), not safe)
        self.assertGreater(min(found), 100)

    def test_shares_are_those_of_the_looks_at_the_program_repeated(self):
        for program in small_programs(1006, 40, longest=60):
            size = length(program)
            for period in (1, 2, 3, 4, 6, size, 25):
                round_of_looks = size // gcd(size, period)
                for start in (0, 1, 5, 3 * size + 2):
                    for name, count in seen(program, period, start, 7 * round_of_looks):
                        self.assertEqual(Fraction(*seen_share(program, period, start, name)),
                                         Fraction(count, 7 * round_of_looks))

    def test_looks_are_counted_alike_everywhere(self):
        for program in small_programs(1007, 40, longest=60) + [LONG]:
            for period in (1, 2, 3, 7, 12):
                table = class_table(program, period)
                for start in range(period):
                    found = looks(program, period, start)
                    self.assertEqual(tuple(count for name, count in found), table[start])
                    self.assertEqual(sum(table[start]), look_count(program, period, start))
                    kind, value = outcome(flat_looks, program, period, start)
                    self.assertTrue(kind != 'returned' or value == found)

    def test_even_modulo_every_divisor(self):
        for program in small_programs(1008, 40, longest=60):
            for modulus in range(1, 25):
                if is_even(program, modulus):
                    self.assertTrue(all(is_even(program, divisor) for divisor in divisors(modulus)))


class OtherwiseTest(unittest.TestCase):

    def test_the_same_program_written_otherwise(self):
        rng = Random(1011)
        for program in small_programs(1012, 12, longest=40):
            found = answers(program)
            for other in written_otherwise(program, rng):
                self.assertEqual(answers(other), found)
                self.assertEqual(telling(program, other), ())
                for period in range(1, 9):
                    self.assertIs(look_alike(program, other, period), True)
                    self.assertIsNone(told_apart(program, other, period))

    def test_long_programs_written_otherwise(self):
        one = (('loop', MOST_ROUNDS, (('line', 'a', 1), ('line', 'b', 2))),)
        other = (('loop', 10 ** 9, (('loop', 10 ** 9 - 1, one[0][2]), ('line', 'a', 1), ('line', 'b', 1), ('line', 'b', 1))),)
        for period in (1, 2, 3, 6, 7, 1999, 2000, 3 * 7 ** 30):
            self.assertEqual([is_safe(one, period), most_biased(one, period, 'a')],
                             [is_safe(other, period), most_biased(other, period, 'a')])
            self.assertIs(look_alike(one, other, period), True)
            if period <= 2000:
                self.assertEqual(looks(one, period, 10 ** 18 + 1), looks(other, period, 10 ** 18 + 1))
                self.assertEqual(class_table(one, period), class_table(other, period))
                self.assertEqual(least_padding(one, period), least_padding(other, period))

    def test_the_program_repeated(self):
        for program in small_programs(1013, 30, longest=60):
            size = length(program)
            for times in (2, 3, 6):
                more = (('loop', times, program),)
                self.assertEqual([blockers(more), density(more), next_safe(more, FAR), nth_safe(more, 50)],
                                 [blockers(program), density(program), next_safe(program, FAR), nth_safe(program, 50)])
                self.assertEqual(seen(more, 7, 3, 200), seen(program, 7, 3, 200))
                for period in (1, 2, 3, 4, 6, size, 12 * size):
                    self.assertIs(is_safe(more, period), is_safe(program, period))
                    for name in lines_of(program):
                        self.assertEqual(seen_share(more, period, 5, name), seen_share(program, period, 5, name))
                        self.assertEqual(most_biased(more, period, name), most_biased(program, period, name))

    def test_the_program_turned(self):
        for program in small_programs(1014, 30, longest=40):
            size = length(program)
            for by in {0, 1, size // 2, size - 1}:
                other = turned(program, by)
                self.assertEqual([totals(other), blockers(other), density(other)],
                                 [totals(program), blockers(program), density(program)])
                self.assertEqual(seen(other, 5, 2, 90), seen(program, 5, 2 + by, 90))
                for period in range(1, 13):
                    self.assertIs(is_safe(other, period), is_safe(program, period))
                    for name in lines_of(program):
                        self.assertEqual(seen_share(other, period, 4, name), seen_share(program, period, 4 + by, name))
                        self.assertEqual(abs(Fraction(*most_biased(other, period, name)[1])),
                                         abs(Fraction(*most_biased(program, period, name)[1])))
                    # A safe period sees the shares alone, and these are the same.
                    self.assertTrue(look_alike(program, other, period) or not is_safe(program, period))
                for divisor in telling(program, other):
                    self.assertTrue(any(divisor % blocker == 0 for blocker in blockers(program)))

    def test_the_program_padded(self):
        for program in small_programs(1015, 30, longest=60) + [LONG]:
            for period in (1, 2, 3, 6, 10, 12, 30):
                least = least_padding(program, period)
                self.assertLess(least, period)
                self.assertEqual([is_safe(padded(program, ticks), period) for ticks in range(least + 1)],
                                 [False] * least + [True])
                more = padded(program, least)
                self.assertEqual(least_padding(more, period), 0)
                for name in lines_of(more):
                    self.assertEqual(most_biased(more, period, name), (0, (0, 1)))
            more = padded(program, 7)
            size = length(program)
            self.assertEqual(length(more), size + 7)
            self.assertEqual([line_at(more, size - 1), line_at(more, size)], [line_at(program, size - 1), 'idle'])
            self.assertEqual(totals_between(more, size, size + 7)[lines_of(more).index('idle')], ('idle', 7))

    def test_returned_values_are_passed_on(self):
        more = padded(LONG, 10 ** 5000)
        self.assertEqual(length(more), length(LONG) + 10 ** 5000)
        self.assertEqual(looks(more, 2000, 10 ** 4999)[0], ('a', 0))
        self.assertEqual(share(more, 'a'), (1, length(more)))
        self.assertEqual(show_program(more), show_program(LONG) + ' idle:1' + '0' * 5000)
        self.assertIs(is_program(more), False)
        self.assertEqual(line_at(more, length(more) - 1), 'idle')


class BenchAndDeskTest(unittest.TestCase):

    def check(self, program, bench, desk):
        """Check that both answer as the functions do for the program."""
        self.assertEqual([bench.program(), bench.length(), bench.totals()], [program, length(program), totals(program)])
        self.assertTrue(bench == Bench(program))
        self.assertEqual(read_program(desk.run('show')), program)
        self.assertEqual(desk.run('length'), str(length(program)))
        for period in (1, 2, 3, 4, 6, 12, 2000):
            self.assertEqual(bench.safe(period), is_safe(program, period))
            self.assertEqual(desk.run(f'safe {period}') == 'yes', is_safe(program, period))
            self.assertEqual(bench.looks(period, 3), looks(program, period, 3))
            self.assertEqual(desk.run(f'looks {period} 3'),
                             ' '.join(f'{name}={count}' for name, count in looks(program, period, 3)))
            self.assertEqual(desk.run(f'pad {period}'), str(least_padding(program, period)))
        self.assertEqual(desk.run('blockers'), ' '.join(str(blocker) for blocker in blockers(program)) or '-')
        self.assertTrue(all(is_blocker(program, blocker) for blocker in blockers(program)))

    def test_edits_of_both(self):
        rng = Random(1021)
        for program in small_programs(1022, 20, longest=60):
            bench, desk, programs = Bench(program), Desk(show_program(program)), [program]
            for turn in range(12):
                item = rng.choice(small_programs(1023 + turn, 12, longest=30))[0]
                at = rng.randrange(len(programs[-1]))
                kind = rng.choice(('insert', 'replace', 'delete', 'undo'))
                if kind == 'insert' and len(programs[-1]) < 8:
                    self.assertEqual([bench.insert(at, item), desk.run(f'insert {at} {show_program((item,))}')], [None, 'ok'])
                    programs.append(programs[-1][:at] + (item,) + programs[-1][at:])
                elif kind == 'replace':
                    self.assertEqual([bench.replace(at, item), desk.run(f'replace {at} {show_program((item,))}')],
                                     [None, 'ok'])
                    programs.append(programs[-1][:at] + (item,) + programs[-1][at + 1:])
                elif kind == 'delete' and len(programs[-1]) > 1:
                    self.assertEqual([bench.delete(at), desk.run(f'delete {at}')], [programs[-1][at], 'ok'])
                    programs.append(programs[-1][:at] + programs[-1][at + 1:])
                elif kind == 'undo' and len(programs) > 1:
                    self.assertEqual([bench.undo(), desk.run('undo')], [None, 'ok'])
                    programs.pop()
                self.check(programs[-1], bench, desk)
            self.assertEqual(bench.changes(), len(programs) - 1)

    def test_padding_by_editing(self):
        for program in small_programs(1024, 20, longest=60):
            for period in (2, 6, 30):
                least = least_padding(program, period)
                desk = Desk(show_program(program))
                if least:
                    self.assertEqual(desk.run('safe ' + str(period)), 'no')
                    self.assertEqual(desk.run(f'insert {len(program)} idle:{least}'), 'ok')
                self.assertEqual([desk.run('safe ' + str(period)), desk.run('show')],
                                 ['yes', show_program(padded(program, least))])

    def test_wrapping_is_repeating(self):
        for program in small_programs(1025, 20, longest=60):
            bench = Bench(program)
            if is_program((('loop', 5, program),)):
                bench.wrap(0, len(program), 5)
                self.assertEqual(bench.length(), 5 * size_of(program))
                self.assertEqual([bench.safe(period) for period in range(1, 20)],
                                 [is_safe(program, period) for period in range(1, 20)])


if __name__ == '__main__':
    unittest.main()

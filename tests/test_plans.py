"""Point 12, and what point 4 says in (e)."""

import copy
import unittest
from fractions import Fraction
from itertools import product
from math import gcd, lcm
from random import Random

from evensamples.plans import blind_pair, is_exact_cover, shows_blind, shows_weights, weights
from tests.samples import any_values, divisors, variants

COVER = ((2, 0), (4, 1), (4, 3))
LENGTHS = (1, 2, 3, 4, 6, 7, 8, 12, 24, 30, 36, 47, 48)


def seen_mean(values, sampler):
    """Return the mean of the values of the class that the sampler sees, tick by tick."""
    modulus = gcd(sampler[0], len(values))
    seen = [value for tick, value in enumerate(values) if tick % modulus == sampler[1] % modulus]
    return Fraction(sum(seen), len(seen))


def is_fraction(value):
    if type(value) is not tuple or len(value) != 2 or [type(part) for part in value] != [int, int]:
        return False
    return value[1] >= 1 and gcd(*value) == 1


def is_weights(length, samplers, value):
    """Return what shows_weights must return, by multiplying out for each tick."""
    if type(value) is not tuple or len(value) != len(samplers) or not all(is_fraction(part) for part in value):
        return False
    for tick in range(length):
        values = [int(tick == other) for other in range(length)]
        if sum(Fraction(*part) * seen_mean(values, one) for part, one in zip(value, samplers)) != Fraction(1, length):
            return False
    return True


def is_blind(length, samplers, value):
    """Return what shows_blind must return, by comparing the means."""
    if type(value) is not tuple or len(value) != 2:
        return False
    for values in value:
        if type(values) is not tuple or len(values) != length:
            return False
        if any(type(one) is not int or one < 0 for one in values):
            return False
    if sum(value[0]) == sum(value[1]):
        return False
    return all(seen_mean(value[0], one) == seen_mean(value[1], one) for one in samplers)


def is_cover(samplers):
    """Return whether it is an exact cover, integer by integer."""
    for number in range(lcm(*[period for period, start in samplers])):
        if len([start for period, start in samplers if number % period == start]) != 1:
            return False
    return True


def random_sampler(rng, length):
    kind = rng.randrange(4)
    if kind == 0:
        period = rng.choice(divisors(length))
    elif kind == 1:
        period = rng.choice(divisors(length)) * rng.randint(1, 10 ** 6 // length)
    elif kind == 2:
        period = rng.randint(1, 10 ** 6)
    else:
        period = rng.randint(1, 60)
    return period, rng.randrange(period)


def random_cover(rng, splits, most):
    """Return an exact cover, made by splitting classes again and again."""
    classes = [(1, 0)]
    for turn in range(splits):
        period, start = classes.pop(rng.randrange(len(classes)))
        parts = rng.choice([2, 2, 2, 3, 4, 5])
        if len(classes) + parts > most or period * parts > 10 ** 6:
            classes.append((period, start))
            continue
        classes.extend((period * parts, start + period * part) for part in range(parts))
    rng.shuffle(classes)
    return tuple(classes)


def plans(seed, many):
    """Return pairs of a length and samplers, with and without weights."""
    rng = Random(seed)
    found = [(1, ((1, 0),)), (1, ((10 ** 6, 999999),)), (48, ((1, 0),)), (48, ((48, 47),)), (48, ((10 ** 6, 5),)),
             (48, tuple((12, start) for start in range(12))), (48, tuple((48, start) for start in range(12))),
             (48, ((5, 3), (7, 2))), (47, ((48, 1),)), (12, ((2, 0), (2, 0), (2, 1))), (12, ((2, 0), (2, 0))),
             (30, ((2, 0), (3, 1), (5, 2), (6, 5), (10, 7), (15, 11))), (6, ((2, 0), (2, 1), (3, 0), (3, 1), (3, 2)))]
    while len(found) < many:
        length = rng.choice(LENGTHS)
        samplers = [random_sampler(rng, length) for at in range(rng.randint(1, 12))]
        if rng.random() < 0.3:
            samplers[-1] = samplers[0]
        found.append((length, tuple(samplers)))
        # Classes that share a modulus with others: often with weights, and often with several.
        cover = list(random_cover(rng, rng.randint(1, 5), 11))
        size = lcm(*[period for period, start in cover])
        length = size * rng.randint(1, max(48 // size, 1))
        if length <= 48:
            extra = [random_sampler(rng, length) for at in range(rng.randint(0, 12 - len(cover)))]
            mixed = cover + extra
            rng.shuffle(mixed)
            found.append((length, tuple(mixed)))
            found.append((length, tuple(mixed[:-1]) or ((1, 0),)))
    return found


class ExampleTest(unittest.TestCase):

    def test_examples(self):
        self.assertEqual([weights(4, COVER), is_exact_cover(COVER), is_exact_cover(((2, 0), (3, 1))),
                          blind_pair(4, COVER)], [((1, 2), (1, 4), (1, 4)), True, False, None])
        self.assertEqual([weights(6, ((2, 0), (3, 0))),
                          shows_blind(6, ((2, 0), (3, 0)), ((0, 0, 0, 0, 0, 0), (0, 1, 0, 0, 0, 0)))], [None, True])

    def test_further_examples(self):
        self.assertEqual([weights(1, ((5, 3),)), weights(4, ((3, 2),)), weights(4, ((2, 0),))],
                         [((1, 1),), ((1, 1),), None])
        self.assertEqual([shows_weights(4, ((2, 0), (2, 1)), ((1, 2), (1, 2))),
                          shows_weights(4, ((2, 0), (2, 1)), ((2, 4), (1, 2))),
                          shows_weights(4, ((1, 0), (1, 0)), ((1, 3), (2, 3)))], [True, False, True])
        self.assertEqual([shows_blind(2, ((2, 0),), ((5, 0), (5, 1))), shows_blind(2, ((2, 0),), ((5, 1), (6, 0))),
                          shows_blind(2, ((1, 0),), ((1, 0), (0, 1)))], [True, False, False])
        self.assertEqual([is_exact_cover(((1, 0),)), is_exact_cover(((2, 0), (2, 0))),
                          is_exact_cover(((2, 1), (6, 0), (6, 2), (6, 4)))], [True, False, True])


class EitherTest(unittest.TestCase):

    def test_either_weights_or_a_blind_pair(self):
        found = [0, 0]
        for length, samplers in plans(501, 600):
            value, pair = weights(length, samplers), blind_pair(length, samplers)
            self.assertIs(value is None, pair is not None)
            found[pair is None] += 1
            if pair is None:
                self.assertTrue(is_weights(length, samplers, value))
            else:
                self.assertTrue(is_blind(length, samplers, pair))
            self.assertIs(shows_weights(length, samplers, value), pair is None)
            self.assertIs(shows_blind(length, samplers, pair), value is None)
        self.assertGreater(min(found), 100)

    def test_all_small_plans(self):
        for length in range(1, 7):
            classes = [(period, start) for period in divisors(length) for start in range(period)]
            for many in (1, 2, 3):
                for samplers in product(classes, repeat=many):
                    value, pair = weights(length, samplers), blind_pair(length, samplers)
                    self.assertTrue(is_weights(length, samplers, value) if pair is None
                                    else is_blind(length, samplers, pair))
                    self.assertIs(value is None, pair is not None)

    def test_classes_that_meet_crosswise(self):
        # Classes of three prime periods: to take the one out of the other, they must be doubled.
        crosswise = (((6, 1), (5, 0), (6, 4), (3, 0), (2, 1), (6, 2)), ((5, 1), (6, 4), (3, 2), (5, 0), (2, 0)),
                     ((5, 4), (2, 1), (5, 1), (2, 0), (6, 1), (3, 2), (3, 1), (5, 0), (15, 12)),
                     ((3, 2), (3, 2), (10, 4), (2, 0), (5, 0)), ((5, 0), (3, 1), (3, 2), (15, 12), (2, 0), (10, 4)),
                     ((2, 1), (3, 0), (5, 4), (10, 7), (15, 1), (10, 3), (2, 0), (5, 1), (5, 0), (2, 0)),
                     ((6, 4), (3, 0), (2, 1), (15, 10), (5, 1), (5, 0), (3, 2)),
                     ((15, 9), (5, 0), (10, 6), (6, 3), (3, 1), (3, 2), (6, 4), (2, 0)))
        rng = Random(508)
        found = [0, 0]
        for samplers in crosswise:
            for turn in range(20):
                value, pair = weights(30, samplers), blind_pair(30, samplers)
                found[pair is None] += 1
                self.assertIs(value is None, pair is not None)
                self.assertTrue(is_weights(30, samplers, value) if pair is None else is_blind(30, samplers, pair))
                samplers = tuple(rng.sample(samplers, len(samplers)))
        self.assertGreater(min(found), 30)

    def test_periods_without_a_common_divisor_see_all_ticks(self):
        for length in LENGTHS:
            for period in (1, 10 ** 6 - 17, 999983, 49, 5 ** 8 * 2 + 1):
                if gcd(period, length) == 1:
                    self.assertEqual(weights(length, ((period, 0),)), ((1, 1),))
                    self.assertIsNone(blind_pair(length, ((period, period - 1),)))

    def test_one_sampler(self):
        for length in LENGTHS:
            for period in divisors(length)[1:]:
                for sampler in ((period, 0), (period, period - 1), (period * 10 ** 4, period * 9999 + 1)):
                    common = gcd(sampler[0], length)
                    self.assertIs(weights(length, (sampler,)) is None, common > 1)
                    self.assertIs(blind_pair(length, (sampler,)) is None, common == 1)

    def test_all_classes_of_a_modulus(self):
        for modulus in (1, 2, 3, 4, 6, 12):
            samplers = tuple((modulus, start) for start in range(modulus))
            self.assertEqual(weights(12, samplers), ((1, modulus),) * modulus)
            self.assertIsNone(blind_pair(48, samplers))
            if modulus > 1:
                self.assertIsNone(weights(48, samplers[:-1]))
                self.assertTrue(is_blind(48, samplers[:-1], blind_pair(48, samplers[:-1])))

    def test_weights_that_must_be_negative(self):
        # All ticks but those in both classes once, by taking the class in common off again.
        samplers = ((2, 0), (3, 0), (6, 0), (6, 1), (6, 5))
        self.assertEqual(weights(6, samplers), ((1, 2), (1, 3), (-1, 6), (1, 6), (1, 6)))

    def test_great_starts_count_by_their_class(self):
        samplers = ((10 ** 6, 999998), (10 ** 6, 999999))
        self.assertEqual(weights(2, samplers), ((1, 2), (1, 2)))
        self.assertTrue(is_blind(4, samplers, blind_pair(4, samplers)))


class ShowsWeightsTest(unittest.TestCase):

    def check(self, length, samplers, value):
        self.assertIs(shows_weights(length, samplers, value), is_weights(length, samplers, value))

    def test_any_value(self):
        for length, samplers in ((1, ((5, 3),)), (4, COVER), (2, ((2, 0),)), (6, ((1, 0), (2, 0)))):
            for value in any_values():
                self.check(length, samplers, value)
                self.check(length, samplers, (value,))
                self.check(length, samplers, (value,) * len(samplers))
                self.check(length, samplers, ((value, value),) * len(samplers))
                self.check(length, samplers, ((1, value),) * len(samplers))
                self.check(length, samplers, ((value, 1),) * len(samplers))

    def test_weights_with_a_part_changed(self):
        wrong = 0
        for length, samplers in plans(502, 70):
            value = weights(length, samplers)
            if value is None:
                continue
            for other in variants(value):
                self.check(length, samplers, other)
                wrong += not is_weights(length, samplers, other)
            for at, part in enumerate(value):
                others = variants(part) + [(part[0] + 1, part[1]), (part[0], part[1] + 1), (-part[0], part[1]),
                                           (2 * part[0], 2 * part[1]), (-part[0], -part[1]), (part[0], 0), part + (1,),
                                           Fraction(*part).numerator, (str(part[0]), part[1]), (part[0] * 10 ** 40, 7)]
                for other in others:
                    self.check(length, samplers, value[:at] + (other,) + value[at + 1:])
        self.assertGreater(wrong, 1000)

    def test_other_weights(self):
        samplers = ((1, 0), (1, 0), (2, 0), (2, 1))
        for value in (((1, 1), (0, 1), (0, 1), (0, 1)), ((0, 1), (0, 1), (1, 2), (1, 2)),
                      ((5, 1), (-4, 1), (0, 1), (0, 1)), ((-1, 3), (1, 1), (1, 6), (1, 6)), ((1, 4),) * 4,
                      ((10 ** 400, 1), (1 - 10 ** 400, 1), (0, 1), (0, 1)),
                      ((1, 10 ** 40), (10 ** 40 - 1, 10 ** 40), (0, 1), (0, 1))):
            self.assertIs(shows_weights(8, samplers, value), True)
        for value in (((1, 1), (0, 1), (0, 1), (1, 1)), ((0, 1),) * 4, ((0, 1), (0, 1), (1, 2), (1, 3)),
                      ((10 ** 400, 1), (2 - 10 ** 400, 1), (0, 1), (0, 1)), ((1, 3),) * 4):
            self.assertIs(shows_weights(8, samplers, value), False)

    def test_fractions_that_are_none(self):
        self.assertIs(shows_weights(3, ((1, 0), (1, 0)), ((1, 1), (0, 1))), True)
        for value in (((1, 1), (0, 2)), ((1, 1), (0, -1)), ((1, 1), (0, 0)), ((2, 2), (0, 1)), ((-1, -1), (0, 1)),
                      ((True, 1), (0, 1)), ((1, True), (0, 1)), ((1, 1), (False, 1)), ((1, 1), (0, True)),
                      ([1, 1], (0, 1)), ((1, 1), [0, 1]), [(1, 1), (0, 1)], ((1, 1),), ((1, 1), (0, 1), (0, 1)),
                      (1, 0), ((1,), (0,)), ((1, 1, 1), (0, 1)), (('1', 1), (0, 1)), ((1, 1), (None, 1)),
                      {0: (1, 1), 1: (0, 1)}, '11', ((1, 1), '01'), (((1, 1), (0, 1)),), ()):
            self.assertIs(shows_weights(3, ((1, 0), (1, 0)), value), False)


class ShowsBlindTest(unittest.TestCase):

    def check(self, length, samplers, value):
        self.assertIs(shows_blind(length, samplers, value), is_blind(length, samplers, value))

    def test_any_value(self):
        for length, samplers in ((1, ((5, 3),)), (2, ((2, 0),)), (4, COVER), (3, ((3, 0), (3, 1)))):
            for value in any_values():
                self.check(length, samplers, value)
                self.check(length, samplers, (value, value))
                self.check(length, samplers, ((value,) * length, (0,) * length))
                self.check(length, samplers, ((0,) * length, (0,) * (length - 1) + (value,)))

    def test_all_small_pairs(self):
        found = [0, 0]
        for samplers in (((2, 0),), ((2, 1),), ((1, 0),), ((2, 0), (2, 1)), ((3, 0),), ((3, 0), (3, 2))):
            for length in (2, 3):
                rows = list(product((-1, 0, 1, 2), repeat=length))
                for pair in product(rows, repeat=2):
                    expected = is_blind(length, samplers, pair)
                    found[expected] += 1
                    self.assertIs(shows_blind(length, samplers, pair), expected)
        self.assertGreater(min(found), 250)

    def test_a_pair_with_a_part_changed(self):
        found = [0, 0]
        for length, samplers in plans(503, 90):
            pair = blind_pair(length, samplers)
            if pair is None:
                continue
            others = variants(pair) + [pair[::-1], (pair[0], pair[0]), (list(pair[0]), pair[1])]
            others += [(pair[0] + (0,), pair[1] + (0,)), (pair[0][:-1], pair[1][:-1]), (pair[0], pair[1] + (0,))]
            others += [tuple(tuple(one + 5 for one in row) for row in pair), tuple(tuple(-one for one in row) for row in pair),
                       tuple(tuple(one * 10 ** 40 for one in row) for row in pair)]
            for side in (0, 1):
                for at in range(0, length, 5):
                    for new in (pair[side][at] + 1, -1, True, False, None, '0', (0,), 10 ** 40):
                        row = pair[side][:at] + (new,) + pair[side][at + 1:]
                        others.append((row, pair[1]) if side == 0 else (pair[0], row))
            for other in others:
                expected = is_blind(length, samplers, other)
                found[expected] += 1
                self.assertIs(shows_blind(length, samplers, other), expected)
        self.assertGreater(min(found), 100)

    def test_values_that_are_none(self):
        samplers = ((2, 0),)
        self.assertIs(shows_blind(2, samplers, ((1, 0), (1, 1))), True)
        self.assertIs(shows_blind(2, samplers, ((1, 1), (1, 0))), True)
        for value in (((True, 0), (1, 1)), ((1, False), (1, 1)), ((1, 0), (1, True)), ([1, 0], (1, 1)), ((1, 0), [1, 1]),
                      [(1, 0), (1, 1)], ((1, 0),), ((1, 0), (1, 1), (1, 2)), ((1,), (1, 1)), ((1, 0, 0), (1, 1, 0)),
                      ((1, -1), (1, 0)), ((-1, 0), (-1, 1)), ((1, 0), (1, 0)), ((0, 1), (1, 1)), ((1, '0'), (1, 1)),
                      {0: (1, 0), 1: (1, 1)}, None, (), ((), ()), ('10', '11'), ((1, 0), None)):
            self.assertIs(shows_blind(2, samplers, value), False)


class ExactCoverTest(unittest.TestCase):

    def test_against_going_through_the_integers(self):
        classes = [(period, start) for period in (1, 2, 3, 4) for start in range(period)]
        found = [0, 0]
        for many in (1, 2, 3, 4):
            for samplers in product(classes, repeat=many):
                expected = is_cover(samplers)
                found[expected] += 1
                self.assertIs(is_exact_cover(samplers), expected)
        self.assertGreater(min(found), 40)

    def test_random_samplers(self):
        rng = Random(504)
        for turn in range(400):
            samplers = []
            for at in range(rng.randint(1, 6)):
                period = rng.choice((2, 3, 4, 5, 6, 8, 12))
                samplers.append((period, rng.randrange(period)))
            self.assertIs(is_exact_cover(tuple(samplers)), is_cover(samplers))

    def test_covers_and_covers_with_a_part_changed(self):
        rng = Random(505)
        for turn in range(150):
            cover = random_cover(rng, rng.randint(0, 6), 12)
            self.assertIs(is_exact_cover(cover), True)
            at = rng.randrange(len(cover))
            period, start = cover[at]
            self.assertIs(is_exact_cover(cover + (cover[at],)), False)
            if len(cover) > 1:
                self.assertIs(is_exact_cover(cover[:at] + cover[at + 1:]), False)
                # Another start of the same period meets a neighbour, and leaves a gap.
                other = cover[:at] + ((period, (start + 1) % period),) + cover[at + 1:]
                self.assertIs(is_exact_cover(other), False)
            doubled = cover[:at] + ((2 * period, start),) + cover[at + 1:]
            self.assertIs(is_exact_cover(doubled), False)
            self.assertIs(is_exact_cover(doubled + ((2 * period, start + period),)), True)

    def test_great_periods(self):
        chain = tuple((2 ** power, 2 ** (power - 1) - 1) for power in range(1, 12))
        self.assertIs(is_exact_cover(chain + ((2 ** 11, 2 ** 11 - 1),)), True)
        self.assertIs(is_exact_cover(chain + ((2 ** 12, 2 ** 11 - 1),)), False)
        self.assertIs(is_exact_cover(chain), False)
        self.assertIs(is_exact_cover(((10 ** 6, 0),)), False)
        self.assertIs(is_exact_cover(((2, 0), (10 ** 6, 1))), False)
        self.assertIs(is_exact_cover(((2, 0), (2, 1), (10 ** 6, 999999))), False)
        tens = tuple((10, start) for start in range(9)) + ((20, 9),)
        self.assertIs(is_exact_cover(tens + ((20, 19),)), True)
        self.assertIs(is_exact_cover(tens + ((999980, 19),)), False)
        threes = []
        for power in range(1, 7):
            threes += [(3 ** power, 3 ** (power - 1)), (3 ** power, 2 * 3 ** (power - 1))]
        self.assertIs(is_exact_cover(tuple(threes) + ((3 ** 6, 0),)), True)
        self.assertIs(is_exact_cover(tuple(threes) + ((3 ** 6, 1),)), False)

    def test_shares_that_add_up_to_one_are_not_enough(self):
        for samplers in (((2, 0), (2, 0)), ((2, 0), (3, 0), (6, 0)), ((2, 0), (3, 1), (6, 5)), ((2, 0), (4, 1), (4, 1)),
                         ((2, 0), (4, 0), (4, 1))):
            self.assertEqual(sum(Fraction(1, period) for period, start in samplers), 1)
            self.assertIs(is_exact_cover(samplers), False)

    def test_the_fractions_are_weights(self):
        rng = Random(506)
        checked = 0
        for turn in range(120):
            cover = random_cover(rng, rng.randint(1, 5), 12)
            size = lcm(*[period for period, start in cover])
            for length in range(size, 49, size):
                checked += 1
                value = tuple((1, period) for period, start in cover)
                self.assertIs(shows_weights(length, cover, value), True)
                self.assertIsNone(blind_pair(length, cover))
                self.assertTrue(is_weights(length, cover, weights(length, cover)))
        self.assertGreater(checked, 100)


class ArgumentTest(unittest.TestCase):

    def test_arguments_by_name(self):
        self.assertEqual(weights(samplers=COVER, length=4), ((1, 2), (1, 4), (1, 4)))
        self.assertIs(shows_weights(value=((1, 2), (1, 4), (1, 4)), samplers=COVER, length=4), True)
        self.assertIsNone(blind_pair(samplers=COVER, length=4))
        self.assertIs(shows_blind(value=((5, 0), (5, 1)), samplers=((2, 0),), length=2), True)
        self.assertIs(is_exact_cover(samplers=COVER), True)

    def test_no_argument_is_changed(self):
        for value in any_values():
            before = copy.deepcopy(value)
            for part in (value, (value,), (value, value)):
                shows_weights(2, ((2, 0), (2, 1)), part)
                shows_blind(2, ((2, 0), (2, 1)), part)
            self.assertEqual(value, before)

    def test_equal_calls_return_equal_results(self):
        for length, samplers in plans(507, 60):
            before = copy.deepcopy(samplers)
            self.assertEqual(weights(length, samplers), weights(length, samplers))
            self.assertEqual(blind_pair(length, samplers), blind_pair(length, samplers))
            self.assertEqual(samplers, before)

    def test_somewhat_beyond_the_limits(self):
        samplers = tuple((15, start) for start in range(15))
        self.assertEqual(weights(60, samplers), ((1, 15),) * 15)
        self.assertTrue(is_blind(60, samplers[1:], blind_pair(60, samplers[1:])))
        self.assertIs(is_exact_cover(samplers), True)


if __name__ == '__main__':
    unittest.main()

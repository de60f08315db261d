"""Point 5, is_program, with the definitions of point 3."""

import copy
import unittest

from evensamples.programs import is_program
from tests.samples import (HALF, LONG, MOST_ROUNDS, MOST_TICKS, PAIRS, SHORT, any_values, deep_programs, nested,
                           small_programs, variants)

LINE = ('line', 'a', 1)


def loop(*items, rounds=2):
    return ('loop', rounds, items)


def loops(depth):
    return nested(LINE, depth, loop)


class IsProgramTest(unittest.TestCase):

    def yes(self, value):
        self.assertIs(is_program(value), True)

    def no(self, value):
        self.assertIs(is_program(value), False)

    def test_example(self):
        self.no((('loop', 2, ()),))

    def test_programs(self):
        for program in [SHORT, HALF, PAIRS, LONG] + small_programs(1, 100) + deep_programs(2, 20):
            self.yes(program)

    def test_items_side_by_side(self):
        self.no(())
        self.yes((LINE,))
        self.yes((LINE,) * 20)
        self.no((LINE,) * 21)
        self.no((loop(),))
        self.yes((loop(*[LINE] * 20),))
        self.no((loop(*[LINE] * 21),))
        self.no((LINE, loop(LINE, loop(*[LINE] * 21))))

    def test_items_in_all(self):
        self.yes((loop(*[LINE] * 19),) * 3)
        self.no((loop(*[LINE] * 19),) * 2 + (loop(*[LINE] * 20),))
        self.no((loop(*[LINE] * 20),) + (loop(*[LINE] * 19),) * 2)
        self.no((loop(*[LINE] * 19),) * 3 + (LINE,))
        self.no((LINE,) + (loop(*[LINE] * 19),) * 3)
        self.yes((loop(loop(*[LINE] * 20), loop(*[LINE] * 20)),) + (LINE,) * 17)
        self.no((loop(loop(*[LINE] * 20), loop(*[LINE] * 20)),) + (LINE,) * 18)
        self.yes((loops(5),) * 10)
        self.no((loops(5),) * 10 + (LINE,))
        self.no((loop(*[loop(*[LINE] * 20)] * 20),) * 20)

    def test_depth(self):
        for depth in range(6):
            self.yes((loops(depth),))
            self.yes((LINE, loops(depth), LINE))
        for depth in range(6, 15):
            self.no((loops(depth),))
            self.no((LINE, loops(depth), LINE))
        self.yes((loops(5), loops(5), LINE, loops(4)))
        self.no((loops(5), loops(6)))

    def test_ticks(self):
        for ticks in (1, 2, MOST_TICKS - 1, MOST_TICKS):
            self.yes((('line', 'a', ticks),))
            self.yes((loop(('line', 'a', ticks)),))
        for ticks in (0, -1, MOST_TICKS + 1, MOST_ROUNDS, -MOST_TICKS, 10 ** 400, True, False, None, '1', (1,), [1], {}):
            self.no((('line', 'a', ticks),))
            self.no((LINE, loop(LINE, ('line', 'a', ticks))))

    def test_rounds(self):
        for rounds in (1, 2, MOST_TICKS + 1, MOST_ROUNDS - 1, MOST_ROUNDS):
            self.yes((loop(LINE, rounds=rounds),))
            self.yes((loop(loop(LINE, rounds=rounds)),))
        for rounds in (0, -1, MOST_ROUNDS + 1, -MOST_ROUNDS, 10 ** 400, True, False, None, '1', (1,), [1], {}):
            self.no((loop(LINE, rounds=rounds),))
            self.no((LINE, loop(loop(LINE, rounds=rounds))))

    def test_names(self):
        for name in ('a', 'z', 'az', 'idle', 'line', 'loop', 'abcdefgh', 'zzzzzzzz'):
            self.yes((('line', name, 1),))
            self.yes((loop(('line', name, 1)),))
        wrong = ['', 'abcdefghi', 'a' * 20000, 'A', 'Z', 'aB', 'a b', ' a', 'a ', 'a\n', '\n', 'a1', '1', '_', 'a_', '`',
                 '{', 'a-', 'a:', '\u00e9', 'a\u0301', '\u03b1', '\uff41', '\u0430', '\U0001d41a', '\ud800', '\x00']
        for name in wrong + [None, True, False, 0, 1, (), ('a',), [], ['a'], {}, {'a': 'a'}]:
            self.no((('line', name, 1),))
            self.no((loop(LINE, ('line', name, 1)),))

    def test_lists_in_place_of_tuples(self):
        self.no([LINE])
        self.no((['line', 'a', 1],))
        self.no((['loop', 2, (LINE,)],))
        self.no((('loop', 2, [LINE]),))
        self.no((('loop', 2, (list(LINE),)),))
        self.no({0: LINE})
        self.no(LINE)
        self.no(loop(LINE))

    def test_kinds_of_items(self):
        for kind in ('', 'lines', 'Line', 'LOOP', 'lin', 'line ', None, True, 0, ('line',), ['loop'], {'line': 1}):
            self.no(((kind, 'a', 1),))
            self.no(((kind, 2, (LINE,)),))
        self.no((('loop', 'a', 1),))
        self.no((('line', 2, (LINE,)),))
        self.no((('loop', 2, LINE),))
        self.no((('loop', 2, ((LINE,),)),))

    def test_items_that_are_not_quite_items(self):
        for item in (('line', 'ab', 12), ('loop', 3, (('line', 'ab', 12),)), ('loop', 3, (LINE, loop(LINE)))):
            self.yes((item,))
            for wrong in variants(item):
                self.no((wrong,))
                self.no((LINE, wrong))
                self.no((wrong, LINE))
                self.no((loop(LINE, wrong),))
        for program in ((('line', 'ab', 12),), (loop(LINE),), (LINE, loop(LINE))):
            self.yes(program)
            for wrong in ([*program], (program,), [program], {'a': program}, program + (0,), program[:0], program[0]):
                self.no(wrong)

    def test_any_value(self):
        for value in any_values():
            self.assertIs(is_program(value), value == (LINE,))
            items = (LINE, loop(LINE, rounds=1))
            self.assertIs(is_program((value,)), value in items)
            self.assertIs(is_program((LINE, value)), value in items)
            self.assertIs(is_program((loop(value, LINE),)), value in items)

    def test_values_thirty_deep(self):
        for wrap in (lambda x: (x,), lambda x: [x], lambda x: {'a': x}, lambda x: (x, x), lambda x: ('line', x, 1),
                     lambda x: ('loop', x, (LINE,)), lambda x: ('loop', 1, x), lambda x: (x, 'a', 1)):
            for depth in range(2, 30):
                self.no(nested(0, depth, wrap))
                self.no((nested(LINE, depth, wrap),))

    def test_huge_values_with_shared_parts(self):
        # They have more parts than could ever be walked through.
        self.no((nested(LINE, 14, lambda x: ('loop', 1, (x,) * 20)),))
        self.no(nested(LINE, 29, lambda x: (x,) * 20))

    def test_arguments(self):
        for value in any_values():
            before = copy.deepcopy(value)
            self.assertIs(is_program(value=value), is_program(value))
            self.assertEqual(value, before)


if __name__ == '__main__':
    unittest.main()

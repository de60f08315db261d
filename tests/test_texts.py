"""Point 14, show_program and read_program, and what point 4 says of texts in (g)."""

import copy
import re
import unittest
from random import Random

from evensamples.errors import BadText
from evensamples.padding import padded
from evensamples.programs import is_program
from evensamples.texts import read_program, show_program
from tests.cases import ErrorCase
from tests.samples import (HALF, LONG, MOST_ROUNDS, MOST_TICKS, PAIRS, SHORT, any_values, deep_programs, items_in_all,
                           nested, small_programs, wide_programs)

LINE = ('line', 'a', 1)
TICKS = str(MOST_TICKS)
ROUNDS = str(MOST_ROUNDS)
SIGNS = ['a', 'f', 'z', 'A', 'Z', '0', '1', '2', '9', ' ', ':', '*', '(', ')', '-', '+', ',', '.', '_', '/', ';', '`', '{',
         '\n', '\t', '\r', '\x00', '\u00a0', '\u00e9', '\u0663', '\u00b2', '\u2003', '\uff11', '\uff41', '\U0001d7d9']
ENDS = ('', '1', ':1', 'a:1', '(a:1', '*(a:1')


def split_items(text):
    """Return the texts of the items side by side, split at the spaces that are in no brackets."""
    parts, deep = [''], 0
    for sign in text:
        deep += (sign == '(') - (sign == ')')
        if sign == ' ' and deep == 0:
            parts.append('')
        else:
            parts[-1] += sign
    return parts


def items_of(text, depth=8):
    """Return the items so written, whatever the limits are, or None."""
    items = []
    for part in split_items(text):
        line = re.fullmatch('([a-z]+):([1-9][0-9]*)', part)
        loop = re.fullmatch('([1-9][0-9]*)[*][(](.*)[)]', part, re.DOTALL)
        inside = items_of(loop[2], depth - 1) if loop and depth else None
        if line:
            items.append(('line', line[1], int(line[2])))
        elif inside is not None:
            items.append(('loop', int(loop[1]), inside))
        else:
            return None
    return tuple(items)


def program_of(text):
    """Return the program so written, or None."""
    items = items_of(text)
    return items if is_program(items) else None


def can_go_on(text):
    """Return whether some text of a program begins with this one, trying the shortest ways to go on."""
    closing = ')' * (text.count('(') - text.count(')'))
    return any(program_of(text + end + (')' if '(' in end else '') + closing) is not None for end in ENDS)


def bad_position(text):
    """Return the position that read_program must report for a text that is not that of a program."""
    good, bad = 0, len(text) + 1
    # What cannot go on cannot do so with more characters either, so half of the rest is ruled out with each step.
    while bad - good > 1:
        middle = (good + bad) // 2
        if can_go_on(text[:middle]):
            good = middle
        else:
            bad = middle
    return good


def small_texts():
    return ['a:1', 'abcdefgh:25', '2*(a:1)', '10*(b:3 c:12)', 'a:1 b:2 a:1', 'x:7 3*(a:1 2*(b:1) c:2) idle:40',
            '1*(1*(1*(1*(1*(a:1)))))', '2*(2*(2*(2*(2*(a:1) b:2) c:3) d:4) e:5) f:6', '5*(a:1) 6*(b:2) 7*(c:3)',
            'a:' + TICKS, ROUNDS + '*(b:999999999999)']


def limit_texts():
    loops = nested('a:1', 5, lambda inside: '1*(' + inside + ')')
    return [' '.join(['a:1'] * 20), '3*(' + ' '.join(['b:2'] * 20) + ')',
            ' '.join(['2*(' + ' '.join(['a:1'] * 19) + ')'] * 3), loops,
            ' '.join([loops] * 9 + ['4*(a:1 b:2)'] + ['abcdefgh:' + TICKS] * 3),
            show_program(wide_programs(801)[3]),
            ROUNDS + '*(' + ' '.join(['abcdefgh:' + TICKS] * 20) + ')']


def changed(text, places):
    """Return the text with a character changed, removed, added or repeated at each of the places."""
    out = []
    for at in places:
        head, sign, tail = text[:at], text[at:at + 1], text[at + 1:]
        out.extend([head + tail, head + sign + sign + tail, head, tail, head + tail + sign])
        for other in SIGNS:
            out.extend([head + other + tail, head + other + sign + tail])
    return out


class TextCase(ErrorCase):

    def assert_bad(self, text, position):
        self.assert_raises_with(BadText, 'position', position, read_program, text)

    def assert_read(self, text):
        """Check the program, or the position of the error, by trying; return whether it is a program."""
        program = program_of(text)
        if program is not None:
            self.assertEqual(read_program(text), program)
            self.assertEqual(show_program(program), text)
        else:
            self.assert_bad(text, bad_position(text))
        return program is not None


class ExampleTest(TextCase):

    def test_examples(self):
        self.assertEqual([show_program(LONG), read_program('2*(a:1 b:2)')],
                         ['a:1 1000000000000000000*(b:2 c:1)', (('loop', 2, (('line', 'a', 1), ('line', 'b', 2))),)])
        self.assert_bad('a:01', 2)

    def test_further_examples(self):
        self.assert_bad('2*(a:1', 6)
        self.assert_bad('a:1000000000001', 14)


class BackTest(TextCase):

    def test_small_programs(self):
        for program in small_programs(802, 300) + [SHORT, HALF, PAIRS, LONG]:
            text = show_program(program)
            self.assertIs(type(text), str)
            self.assertEqual(items_of(text), program)
            self.assertEqual(read_program(text), program)

    def test_programs_at_the_limits(self):
        for program in deep_programs(803, 40) + wide_programs(804) + wide_programs(805):
            self.assertEqual(items_of(show_program(program)), program)
            self.assertEqual(read_program(show_program(program)), program)

    def test_texts(self):
        for text in small_texts() + limit_texts():
            program = read_program(text)
            self.assertTrue(is_program(program))
            self.assertEqual(show_program(program), text)
        self.assertEqual([items_in_all(read_program(text)) for text in limit_texts()][:5], [20, 21, 60, 6, 60])

    def test_known_texts(self):
        program = (('loop', 3, (('line', 'b', 2), ('loop', 1, (('line', 'a', 10),)))), ('line', 'zz', MOST_TICKS))
        self.assertEqual(show_program(program), '3*(b:2 1*(a:10)) zz:1000000000000')
        self.assertEqual(read_program('3*(b:2 1*(a:10)) zz:1000000000000'), program)

    def test_programs_beyond_the_limits_as_padding_makes_them(self):
        self.assertEqual(show_program(padded((LINE,) * 20, 7)), 'a:1 ' * 20 + 'idle:7')
        self.assert_bad(show_program(padded((LINE,) * 20, 7)), 79)
        self.assert_bad(show_program(padded((LINE,), 10 * MOST_TICKS)), 22)
        for many in (63, 64, 65, 128, 129, 4300, 4301, 9000):
            for ticks, digits in ((10 ** many, '1' + '0' * many), (10 ** many - 1, '9' * many),
                                  (10 ** many + 7, '1' + '0' * (many - 1) + '7')):
                self.assertEqual(show_program(padded(PAIRS, ticks)), 'a:2 b:2 idle:' + digits)

    def test_kinds_of_values(self):
        program = read_program('2*(a:1 b:2) c:3')
        self.assertEqual([type(program), type(program[0]), type(program[0][1]), type(program[0][2]), type(program[1][2])],
                         [tuple, tuple, int, tuple, int])


class ChangedTextTest(TextCase):

    def test_small_texts(self):
        found = [0, 0]
        for text in small_texts():
            for other in changed(text, range(len(text) + 1)):
                found[self.assert_read(other)] += 1
        self.assertGreater(min(found), 1000)

    def test_texts_at_the_limits(self):
        rng = Random(811)
        for text in limit_texts():
            places = rng.sample(range(len(text) + 1), min(len(text), 5)) + [len(text)]
            for other in changed(text, places):
                self.assert_read(other)

    def test_parts_exchanged(self):
        rng = Random(812)
        for turn in range(400):
            text = ''.join(rng.choice(['a:1', '2*(', ')', ' ', 'b', ':', '1', '*', '(', '0', 'a:1 ', ' 3*(b:2)'])
                           for at in range(rng.randint(1, 9)))
            self.assert_read(text)

    def test_all_short_texts(self):
        texts = ['']
        for size in range(4):
            texts = [text + sign for text in texts for sign in 'a10:*() ']
            for text in texts:
                self.assert_read(text)


class EndTest(TextCase):

    def test_texts_that_end_too_early_at_every_place(self):
        for text in small_texts() + limit_texts():
            step = 1 if len(text) < 100 else 7
            for stop in range(0, len(text), step):
                self.assert_read(text[:stop])

    def test_a_text_that_could_go_on_is_bad_at_its_length(self):
        for text in ('', 'a', 'abcdefgh', 'a:', 'a:1 ', 'a:1 b', '2', '2*', '2*(', '2*(a', '2*(a:', '2*(a:1', '2*(a:1 ',
                     '2*(3*(a:1)', '2*(3*(a:1) ', 'a:1 1', ROUNDS, ROUNDS + '*'):
            self.assert_bad(text, len(text))

    def test_the_empty_text(self):
        self.assert_bad('', 0)


class LimitTest(TextCase):

    def test_ticks(self):
        for ahead, behind in (('', ''), ('b:2 ', ' c:3'), ('4*(b:2 ', ' c:3)'), ('4*(', ')')):
            for ticks in (1, 9, 10, MOST_TICKS - 1, MOST_TICKS):
                self.assertTrue(is_program(read_program(ahead + 'a:' + str(ticks) + behind)))
            at = len(ahead) + 2
            self.assert_bad(ahead + 'a:0' + behind, at)
            self.assert_bad(ahead + 'a:00' + behind, at)
            self.assert_bad(ahead + 'a:' + TICKS + '0' + behind, at + 13)
            self.assert_bad(ahead + 'a:1000000000001' + behind, at + 12)
            self.assert_bad(ahead + 'a:9999999999999' + behind, at + 12)
            self.assert_bad(ahead + 'a:2000000000000' + behind, at + 12)
            self.assert_bad(ahead + 'a:1' + '0' * 5000 + behind, at + 13)

    def test_rounds(self):
        for ahead, behind in (('', ''), ('b:2 ', ' c:3'), ('4*(b:2 ', ' c:3)'), ('4*(', ')')):
            for rounds in (1, 9, 10, MOST_ROUNDS - 1, MOST_ROUNDS):
                self.assertTrue(is_program(read_program(ahead + str(rounds) + '*(a:1)' + behind)))
            at = len(ahead)
            self.assert_bad(ahead + '0*(a:1)' + behind, at)
            self.assert_bad(ahead + '02*(a:1)' + behind, at)
            self.assert_bad(ahead + ROUNDS + '0*(a:1)' + behind, at + 19)
            self.assert_bad(ahead + ROUNDS[:-1] + '1*(a:1)' + behind, at + 18)
            self.assert_bad(ahead + '9' * 19 + '*(a:1)' + behind, at + 18)
            self.assert_bad(ahead + '1' + '0' * 5000 + '*(a:1)' + behind, at + 19)

    def test_the_ninth_letter(self):
        for ahead in ('', 'b:2 ', '4*(', '4*(b:2 '):
            self.assert_bad(ahead + 'abcdefghi:1', len(ahead) + 8)
            self.assert_bad(ahead + 'abcdefghi', len(ahead) + 8)
            self.assert_bad(ahead + 'a' * 10000, len(ahead) + 8)
            self.assert_bad(ahead + 'abcdefgh', len(ahead) + 8)

    def test_the_space_ahead_of_an_item_too_many(self):
        row = ' '.join(['a:1'] * 20)
        self.assert_bad(row + ' ', len(row))
        self.assert_bad(row + ' b:1', len(row))
        self.assert_bad('2*(' + row + ' b:1)', len(row) + 3)
        self.assert_bad('2*(' + row + ' ', len(row) + 3)
        self.assertTrue(is_program(read_program('2*(' + row + ') b:1')))
        full = ' '.join(['2*(' + ' '.join(['a:1'] * 19) + ')'] * 3)
        self.assertEqual(items_in_all(read_program(full)), 60)
        self.assert_bad(full + ' ', len(full))
        self.assert_bad(full + ' b:1', len(full))
        self.assert_bad(full + ' 2*(b:1)', len(full))
        self.assert_bad(full[:-1] + ' b:1)', len(full) - 1)

    def test_the_first_digit_of_a_loop_without_room(self):
        # 59 items: there is room for a line, but not for a loop and an item in it.
        full = ' '.join(['2*(' + ' '.join(['a:1'] * many) + ')' for many in (19, 19, 18)])
        self.assertEqual(items_in_all(read_program(full)), 59)
        self.assertEqual(items_in_all(read_program(full + ' b:1')), 60)
        self.assert_bad(full + ' ', len(full) + 1)
        self.assert_bad(full + ' 2*(b:1)', len(full) + 1)
        self.assert_bad(full + ' 2', len(full) + 1)
        self.assert_bad(full[:-1] + ' 2*(b:1))', len(full))
        self.assert_bad(full[:-1] + ' 2', len(full))
        self.assert_bad(full + ' b:1 ', len(full) + 4)
        # 58 items: there is room for a loop with one item.
        full = ' '.join(['2*(' + ' '.join(['a:1'] * many) + ')' for many in (19, 19, 17)])
        self.assertEqual(items_in_all(read_program(full + ' 2*(b:1)')), 60)
        self.assert_bad(full + ' 2*(b:1 ', len(full) + 7)
        self.assert_bad(full + ' 2*(3*(b:1))', len(full) + 4)

    def test_the_first_digit_of_a_loop_too_deep(self):
        ahead = '1*(' * 5
        self.assertTrue(is_program(read_program(ahead + 'a:1' + ')' * 5)))
        self.assert_bad(ahead + '1*(a:1)' + ')' * 5, 15)
        self.assert_bad(ahead + '1', 15)
        self.assert_bad(ahead + '0', 15)
        self.assert_bad(ahead + 'a:1 1*(b:2)', 19)
        self.assert_bad('1*(' * 6000, 15)

    def test_other_characters(self):
        for text, position in (('A:1', 0), (' a:1', 0), ('a:1  b:2', 4), ('a:1 ', 4), ('a :1', 1), ('a: 1', 2),
                               ('a:-1', 2), ('a:+1', 2), ('a:1,b:2', 3), ('2 *(a:1)', 1), ('2*( a:1)', 3),
                               ('2*(a:1 )', 7), ('2*()', 3), ('2*(a:1))', 7), ('2(a:1)', 1), ('2*a:1', 2), (')', 0),
                               ('(a:1)', 0), ('a:1)', 3), ('2*(a:1)b:2', 7), ('2*(a:1)3', 7), (':1', 0), ('*(a:1)', 0),
                               ('a:1\n', 3), ('a:1_0', 3), ('a:\u0661', 2), ('\u0662*(a:1)', 0), ('2\u00b2*(a:1)', 1),
                               ('a\u00e9:1', 1), ('a1:1', 1), ('2a:1', 1), ('a:1a', 3), ('{:1', 0), ('`:1', 0)):
            self.assert_bad(text, position)


class ArgumentTest(TextCase):

    def test_values_that_are_not_strings(self):
        for value in any_values() + [SHORT, list('a:1'), ('a:1',), {'a': 1}, 10 ** 5000]:
            if not isinstance(value, str):
                before = copy.deepcopy(value)
                self.assert_bad(value, 0)
                self.assertEqual(value, before)
            else:
                self.assert_read(value[:30])

    def test_long_texts(self):
        self.assert_bad('a' * 20000, 8)
        self.assert_bad('a:1 ' * 5000, 79)
        self.assert_bad('2*(' * 6666, 15)
        self.assert_bad('1' * 20000, 18)

    def test_arguments_by_name(self):
        self.assertEqual(show_program(program=PAIRS), 'a:2 b:2')
        self.assertEqual(read_program(text='a:2 b:2'), PAIRS)

    def test_equal_calls_return_equal_results(self):
        for program in small_programs(821, 20):
            before = copy.deepcopy(program)
            self.assertEqual(show_program(program), show_program(program))
            self.assertEqual(read_program(show_program(program)), read_program(show_program(program)))
            self.assertEqual(program, before)


if __name__ == '__main__':
    unittest.main()

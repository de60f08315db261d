"""Point 14, class Desk, and what point 4 says of it in (g)."""

import copy
import re
import unittest
from random import Random

from evensamples.bench import Bench
from evensamples.bias import most_biased, share
from evensamples.desk import Desk
from evensamples.errors import (BadCommand, BadIndex, BadItem, BadText, LastItem, NoLine, NothingToUndo, TooLarge,
                                TooLong)
from evensamples.looks import looks, seen
from evensamples.padding import least_padding
from evensamples.programs import is_program, length, totals
from evensamples.safety import blockers, count_safe, density, is_safe, next_safe
from evensamples.texts import read_program, show_program
from tests.cases import ErrorCase, outcome
from tests.samples import any_values, deep_programs, nested, random_items, size_of, small_programs, wide_programs

FAR = 10 ** 30
NUMBER = '(0|[1-9][0-9]{0,30})'
NAME = '([a-z]{1,8})'
SIGNS = ['a', 'z', 'A', '0', '1', '9', ' ', '  ', '-', '+', '.', ':', '*', '(', ')', '_', '\n', '\t', '\u00a0', '\u0661',
         '\u00b2', '\u00e9', '']


def pairs(rows):
    return ' '.join('{}={}'.format(*row) for row in rows)


def fraction(value):
    return '{}/{}'.format(*value)


# For each word: the form of what follows, the bounds of the numbers in it, and the answer for a program.
FORMS = {
    'show': ('', (), lambda program: show_program(program)),
    'length': ('', (), lambda program: str(length(program))),
    'totals': ('', (), lambda program: pairs(totals(program))),
    'looks': (f' {NUMBER} {NUMBER}', ((1, 2000), (0, None)),
              lambda program, period, start: pairs(looks(program, period, start))),
    'seen': (f' {NUMBER} {NUMBER} {NUMBER}', ((1, 2000), (0, None), (0, 10 ** 18)),
             lambda program, period, start, count: pairs(seen(program, period, start, count))),
    'safe': (f' {NUMBER}', ((1, FAR),), lambda program, period: 'yes' if is_safe(program, period) else 'no'),
    'blockers': ('', (), lambda program: ' '.join(map(str, blockers(program))) or '-'),
    'next': (f' {NUMBER}', ((1, FAR),), lambda program, bound: str(next_safe(program, bound))),
    'count': (f' {NUMBER}', ((0, FAR),), lambda program, most: str(count_safe(program, most))),
    'density': ('', (), lambda program: fraction(density(program))),
    'share': (f' {NAME}', (None,), lambda program, name: fraction(share(program, name))),
    'bias': (f' {NUMBER} {NAME}', ((1, FAR), None), lambda program, period, name:
             '{} {}/{}'.format(most_biased(program, period, name)[0], *most_biased(program, period, name)[1])),
    'pad': (f' {NUMBER}', ((1, 2000),), lambda program, period: str(least_padding(program, period))),
}


def words_of(line, form, bounds):
    """Return the numbers and names of a line of this form, None if it does not have it or passes a bound."""
    match = re.fullmatch(form, line)
    if match is None:
        return None
    words = []
    for text, bound in zip(match.groups(), bounds):
        words.append(text if bound is None else int(text))
        if bound is not None and (int(text) < bound[0] or bound[1] is not None and int(text) > bound[1]):
            return None
    return words


def expected(bench, line):
    """Return what a desk must answer or raise, carrying out on a bench what changes the program."""
    if not isinstance(line, str):
        return BadCommand, {'line': line}
    for word, (form, bounds, answer) in FORMS.items():
        words = words_of(line, word + form, bounds)
        if words is not None:
            return outcome(answer, bench.program(), *words)
    edit = re.fullmatch(f'(insert|replace) {NUMBER} (.*)', line, re.DOTALL)
    if edit and outcome(read_program, edit[3])[0] == 'returned' and len(read_program(edit[3])) == 1:
        found = outcome(getattr(bench, edit[1]), int(edit[2]), read_program(edit[3])[0])
    elif re.fullmatch(f'delete {NUMBER}', line):
        found = outcome(bench.delete, int(line[7:]))
    elif line == 'undo':
        found = outcome(bench.undo)
    else:
        return BadCommand, {'line': line}
    return ('returned', 'ok') if found[0] == 'returned' else found


def good_lines():
    return ['insert 0 z:5', 'insert 1 2*(a:1 3*(b:2) c:1)', 'replace 1 x:10', 'replace 0 4*(b:2 a:1)', 'delete 0', 'undo',
            'show', 'length', 'totals', 'looks 3 1', 'looks 2000 0', 'seen 4 2 7', 'seen 1999 12345 1000000', 'safe 6',
            'blockers', 'next 10', 'count 25', 'density', 'share a', 'share idle', 'bias 4 a', 'bias 12 zz', 'pad 6']


def changed(line):
    """Return lines that differ from this one by a character or a word."""
    out = []
    for at in range(len(line) + 1):
        head, sign, tail = line[:at], line[at:at + 1], line[at + 1:]
        for other in SIGNS:
            out.extend([head + other + tail, head + other + sign + tail])
        out.append(head + sign + sign + tail)
    words = line.split(' ')
    for at in range(len(words) + 1):
        out.append(' '.join(words[:at] + words[at + 1:]))
        for word in ('', '0', '1', 'a', 'undo', 'a:1', '01', '-1'):
            out.append(' '.join(words[:at] + [word] + words[at:]))
            out.append(' '.join(words[:at] + [word] + words[at + 1:]))
    return out + [line.upper(), line.capitalize(), line + '\n', '\n' + line, line.replace(' ', '\t')]


class DeskCase(ErrorCase):

    def assert_run(self, desk, bench, line):
        """Check that the desk answers as the functions do for the program of the bench; return the outcome."""
        wanted = expected(bench, line)
        found = outcome(desk.run, line)
        self.assertEqual(found, wanted, line)
        if found[0] == 'returned':
            self.assertIs(type(found[1]), str)
        return found

    def assert_same_state(self, desk, bench):
        """Check the program and all that can be taken back; this takes all of it back."""
        self.assertEqual(desk.run('show'), show_program(bench.program()))
        while bench.changes():
            self.assertEqual([desk.run('undo'), bench.undo()], ['ok', None])
            self.assertEqual(desk.run('show'), show_program(bench.program()))
        self.assert_raises_with(NothingToUndo, None, None, desk.run, 'undo')

    def assert_bad(self, desk, line):
        with self.assertRaises(BadCommand) as caught:
            desk.run(line)
        self.assertIs(type(caught.exception), BadCommand)
        self.assertIs(caught.exception.line, line)


class ExampleTest(DeskCase):

    def test_examples(self):
        desk = Desk('a:1 b:2 a:1')
        self.assertEqual([desk.run('safe 6'), desk.run('blockers'), desk.run('looks 3 1'), desk.run('bias 4 a'),
                          desk.run('density')], ['yes', '4', 'a=0 b=1', '0 1/2', '3/4'])

    def test_further_examples(self):
        desk = Desk('a:3 b:3')
        self.assertEqual((desk.run('insert 2 idle:1'), desk.run('safe 2'), desk.run('undo'), desk.run('bias 2 b'),
                          desk.run('pad 2'), desk.run('next 6')), ('ok', 'yes', 'ok', '0 -1/6', '1', '7'))
        desk = Desk('a:1')
        self.assert_bad(desk, 'looks 0 1')
        self.assert_raises_with(NoLine, 'value', 'b', desk.run, 'share b')


class CreationTest(DeskCase):

    def test_programs(self):
        for program in small_programs(901, 20) + deep_programs(902, 5) + wide_programs(903):
            self.assertEqual(Desk(show_program(program)).run('show'), show_program(program))

    def test_texts_that_are_none(self):
        for text, position in (('', 0), ('a:01', 2), ('2*(a:1', 6), ('a:1000000000001', 14), (' a:1', 0), ('A:1', 0)):
            self.assert_raises_with(BadText, 'position', position, Desk, text)
        for value in any_values():
            if not isinstance(value, str):
                self.assert_raises_with(BadText, 'position', 0, Desk, value)
            else:
                self.assertEqual(outcome(Desk, value), outcome(read_program, value))

    def test_desks_are_independent(self):
        one, other = Desk('a:1'), Desk('a:1')
        one.run('insert 0 b:2')
        self.assertEqual([one.run('show'), other.run('show')], ['b:2 a:1', 'a:1'])


class FormTest(DeskCase):

    def test_each_form(self):
        desk = Desk('a:1 2*(b:3 idle:1)')
        for line, answer in (('show', 'a:1 2*(b:3 idle:1)'), ('length', '9'), ('totals', 'a=1 b=6 idle=2'),
                             ('looks 2 1', 'a=0 b=4 idle=0'), ('looks 1 100', 'a=0 b=0 idle=0'),
                             ('seen 9 0 5', 'a=5 b=0 idle=0'), ('seen 2 1 0', 'a=0 b=0 idle=0'), ('safe 2', 'yes'),
                             ('safe 3', 'no'), ('blockers', '3'), ('next 3', '4'), ('count 9', '6'), ('count 0', '0'),
                             ('density', '2/3'), ('share b', '2/3'), ('share a', '1/9'), ('bias 9 a', '0 8/9'),
                             ('bias 3 idle', '0 -2/9'), ('bias 2 b', '0 0/1'), ('pad 1', '0'), ('pad 3', '1'),
                             ('insert 0 c:2', 'ok'), ('replace 1 3*(c:1)', 'ok'), ('show', 'c:2 3*(c:1) 2*(b:3 idle:1)'),
                             ('delete 2', 'ok'), ('length', '5'), ('blockers', '-'), ('density', '1/1'), ('undo', 'ok'),
                             ('undo', 'ok'), ('undo', 'ok'), ('show', 'a:1 2*(b:3 idle:1)')):
            self.assertEqual(desk.run(line), answer, line)

    def test_several_blockers(self):
        self.assertEqual(Desk('a:1 b:5').run('blockers'), '2 3')

    def test_all_lines_for_many_programs(self):
        rng = Random(911)
        programs = small_programs(912, 25) + deep_programs(913, 6) + wide_programs(914)
        for program in programs:
            for line in good_lines():
                desk, bench = Desk(show_program(program)), Bench(program)
                self.assert_run(desk, bench, line)
                self.assert_same_state(desk, bench)
            desk, bench = Desk(show_program(program)), Bench(program)
            for turn in range(4):
                period, start = rng.randint(1, 2000), rng.randint(0, FAR)
                for line in (f'looks {period} {start}', f'seen {period} {start} {rng.randint(0, 10 ** 18)}',
                             f'safe {start + 1}', f'next {start + 1}', f'count {start}', f'bias {start + 1} b',
                             f'pad {period}', f'share {rng.choice("abcd")}'):
                    self.assert_run(desk, bench, line)

    def test_bounds(self):
        desk, bench = Desk('a:3 b:3'), Bench(read_program('a:3 b:3'))
        lines = {'looks {} 0': (0, 1, 2000, 2001), 'looks 1 {}': (0, 10 ** 31 - 1, 10 ** 31),
                 'seen {} 0 5': (0, 1, 2000, 2001), 'seen 1 {} 5': (0, 10 ** 31 - 1, 10 ** 31),
                 'seen 1 0 {}': (0, 10 ** 18, 10 ** 18 + 1), 'safe {}': (0, 1, FAR, FAR + 1, 10 ** 31),
                 'next {}': (0, 1, FAR, FAR + 1), 'count {}': (0, 1, FAR, FAR + 1), 'bias {} a': (0, 1, FAR, FAR + 1),
                 'pad {}': (0, 1, 2000, 2001), 'delete {}': (1, 2, 10 ** 31 - 1, 10 ** 31),
                 'insert {} c:1': (0, 1, 2, 3, 10 ** 31 - 1, 10 ** 31), 'replace {} c:1': (0, 1, 2, 10 ** 31 - 1, 10 ** 31)}
        bad = 0
        for form, numbers in lines.items():
            for number in numbers:
                found = self.assert_run(desk, bench, form.format(number))
                bad += found[0] is BadCommand
                if bench.changes():
                    self.assertEqual([desk.run('undo'), bench.undo()], ['ok', None])
        self.assertEqual(bad, 20)

    def test_just_these_bounds(self):
        desk = Desk('a:3 b:3')
        for line in ('looks 0 0', 'looks 2001 0', 'seen 0 0 0', 'seen 2001 0 0', f'seen 1 0 {10 ** 18 + 1}', 'safe 0',
                     f'safe {FAR + 1}', 'next 0', f'next {FAR + 1}', f'count {FAR + 1}', 'bias 0 a', f'bias {FAR + 1} a',
                     'pad 0', 'pad 2001', f'looks 1 {10 ** 31}', f'seen 1 {10 ** 31} 0', f'delete {10 ** 31}',
                     f'insert {10 ** 31} c:1', f'replace {10 ** 31} c:1'):
            self.assert_bad(desk, line)
        for line, answer in (('looks 1 0', 'a=3 b=3'), ('looks 2000 0', 'a=1 b=0'), ('seen 1 0 0', 'a=0 b=0'),
                             (f'seen 2000 0 {10 ** 18}', f'a={2 * 10 ** 18 // 3 + 1} b={10 ** 18 // 3}'), ('safe 1', 'yes'),
                             (f'safe {FAR}', 'no'), ('next 1', '1'), (f'next {FAR}', str(FAR + 1)), ('count 0', '0'),
                             (f'count {FAR}', str(FAR // 2)), ('bias 1 a', '0 0/1'), (f'bias {FAR} a', '0 1/6'),
                             ('pad 1', '0'), ('pad 2000', '1'), (f'looks 1 {10 ** 31 - 1}', 'a=0 b=0'),
                             (f'seen 1 {10 ** 31 - 1} 1', 'a=0 b=1')):
            self.assertEqual(desk.run(line), answer, line)


class BadCommandTest(DeskCase):

    def test_numbers(self):
        desk = Desk('a:3 b:3')
        for number in ('', '-1', '+1', '01', '00', '1.', '1.0', '1e2', '0x1', '1_0', ' 1', '1 ', '\u0661', '\u00b2',
                       '\uff11', '1' * 32, '0' * 31, '0' * 32, '1\n', '\t1', 'a', 'one', 'I', '1a', '--1', '1,0', '(1)', "'1'"):
            for form in ('looks {} 0', 'looks 1 {}', 'seen {} 0 5', 'seen 1 {} 5', 'seen 1 0 {}', 'safe {}', 'next {}',
                         'count {}', 'bias {} a', 'pad {}', 'delete {}', 'insert {} c:1', 'replace {} c:1'):
                self.assert_bad(desk, form.format(number))
        self.assertEqual(desk.run('show'), 'a:3 b:3')
        self.assert_raises_with(NothingToUndo, None, None, desk.run, 'undo')

    def test_numbers_of_31_digits(self):
        desk = Desk('a:3 b:3')
        number = int('9' * 31)
        self.assert_raises_with(BadIndex, 'value', number, desk.run, f'delete {number}')
        self.assert_raises_with(BadIndex, 'value', number, desk.run, f'insert {number} a:1')
        self.assert_raises_with(BadIndex, 'value', number, desk.run, f'replace {number} a:1')
        self.assertEqual(desk.run(f'looks 1 {number}'), 'a=0 b=0')

    def test_names(self):
        desk = Desk('a:3 b:3')
        for name in ('', 'A', 'abcdefghi', 'a1', '1', 'a b', ' a', 'a ', 'a\n', '\u00e9', 'a:', '_', '-', 'aB', '{', '`'):
            self.assert_bad(desk, 'share ' + name)
            self.assert_bad(desk, 'bias 2 ' + name)
        for name in ('c', 'abcdefgh', 'idle', 'show', 'aa'):
            self.assert_raises_with(NoLine, 'value', name, desk.run, 'share ' + name)
            self.assert_raises_with(NoLine, 'value', name, desk.run, 'bias 2 ' + name)

    def test_items(self):
        desk = Desk('a:3 b:3')
        deep = nested('a:1', 6, lambda inside: '1*(' + inside + ')')
        large = '2*(' + ' '.join(['2*(a:1 b:1 c:1)'] * 20) + ')'
        for item in ('', ' ', 'a', 'a:', 'a:0', 'a:01', 'a:1 ', ' a:1', 'a:1 b:2', '2*(a:1) b:1', 'b:1 2*(a:1)', '2*()',
                     '2*(a:1  b:2)', '2*( a:1)', '2*(a:1 )', 'A:1', 'a:1000000000001', 'abcdefghi:1', '0*(a:1)', deep, large,
                     '2*(' + ' '.join(['a:1'] * 21) + ')', '1000000000000000001*(a:1)', 'a:1\n', '2*(a:1\tb:1)', '2*(a:1'):
            for word in ('insert', 'replace'):
                self.assert_bad(desk, f'{word} 0 {item}')
                # The form counts ahead of the index.
                self.assert_bad(desk, f'{word} 99 {item}')
        self.assert_bad(desk, 'insert 0')
        self.assert_bad(desk, 'replace 0')
        self.assertEqual(desk.run('show'), 'a:3 b:3')
        self.assert_raises_with(NothingToUndo, None, None, desk.run, 'undo')

    def test_items_with_spaces(self):
        desk = Desk('a:3')
        item = '2*(a:1 3*(b:2 c:3) d:4)'
        self.assertEqual([desk.run('insert 1 ' + item), desk.run('replace 0 ' + item), desk.run('show')],
                         ['ok', 'ok', item + ' ' + item])
        deep = nested('a:1', 5, lambda inside: '1*(' + inside + ' b:2)')
        self.assertEqual([desk.run('replace 1 ' + deep), desk.run('delete 0'), desk.run('show')], ['ok', 'ok', deep])

    def test_words_too_many_and_too_few_and_spaces(self):
        desk = Desk('a:3 b:3')
        for line in good_lines():
            for other in (' ' + line, line + ' ', line.replace(' ', '  ', 1) if ' ' in line else line + '  ', line + ' 1',
                          line + ' a', '1 ' + line, line.upper(), line.title(), line + '\n', '\t' + line, line[1:],
                          line.replace(' ', '\t') + '\t', line.replace(' ', '\u00a0') + '\u00a0', line + '.'):
                self.assert_bad(desk, other)
            for stop in range(len(line.split(' '))):
                short = ' '.join(line.split(' ')[:stop])
                self.assert_bad(desk, short)
        self.assertEqual(desk.run('show'), 'a:3 b:3')

    def test_other_words(self):
        desk = Desk('a:3 b:3')
        for line in ('', ' ', '  ', '\n', 'wrap 0 2 3', 'nth 3', 'program', 'changes', 'copy', 'redo', 'help', 'quit', 'exit',
                     'run show', 'even 2', 'expanded', 'Show', 'SHOW', 'show show', 'undo 1', 'undo undo', 'length 1',
                     'totals a', 'blockers 2', 'density 1', 'share', 'share 1', 'bias a 4', 'bias 4', 'safe', 'next', 'count',
                     'pad', 'delete', 'delete a', 'insert', 'insert a:1', 'insert a:1 0', 'looks', 'looks 1', 'looks 1 2 3',
                     'seen 1 2', 'seen 1 2 3 4', 'x' * 20000, 'show' + ' ' * 5000):
            self.assert_bad(desk, line)

    def test_any_value(self):
        for value in any_values() + [['show'], ('show',), {'show': ''}, b'show']:
            desk = Desk('a:3 b:3')
            before = copy.deepcopy(value)
            self.assert_bad(desk, value)
            self.assertEqual(value, before)
            self.assert_same_state(desk, Bench(read_program('a:3 b:3')))

    def test_lines_with_a_part_changed(self):
        program = read_program('a:2 b:4 3*(a:1 idle:1)')
        found = {}
        for line in good_lines():
            for other in changed(line):
                desk, bench = Desk(show_program(program)), Bench(program)
                kind = self.assert_run(desk, bench, other)[0]
                found[kind] = found.get(kind, 0) + 1
                self.assertEqual(desk.run('show'), show_program(bench.program()))
        for kind in ('returned', BadCommand, BadIndex, NoLine):
            self.assertGreater(found[kind], 20)


class ErrorTest(DeskCase):

    def assert_error(self, desk, error_class, field, value, line):
        """Check the error, and that the desk is then as it was."""
        before = desk.run('show')
        self.assert_raises_with(error_class, field, value, desk.run, line)
        self.assertEqual(desk.run('show'), before)

    def test_errors_of_the_bench(self):
        desk = Desk('a:3 b:3')
        self.assert_error(desk, NothingToUndo, None, None, 'undo')
        self.assert_error(desk, BadIndex, 'value', 2, 'delete 2')
        self.assert_error(desk, BadIndex, 'value', 3, 'insert 3 a:1')
        self.assert_error(desk, BadIndex, 'value', 2, 'replace 2 a:1')
        self.assertEqual(desk.run('delete 0'), 'ok')
        self.assert_error(desk, LastItem, None, None, 'delete 0')
        self.assert_error(desk, BadIndex, 'value', 1, 'delete 1')
        self.assertEqual([desk.run('undo'), desk.run('show')], ['ok', 'a:3 b:3'])
        self.assert_error(desk, NothingToUndo, None, None, 'undo')

    def test_items_that_the_program_cannot_take(self):
        desk = Desk(' '.join(['a:1'] * 20))
        self.assert_error(desk, BadItem, 'value', ('line', 'b', 2), 'insert 20 b:2')
        self.assert_error(desk, BadIndex, 'value', 21, 'insert 21 b:2')
        desk = Desk(' '.join(['2*(' + ' '.join(['a:1'] * 19) + ')'] * 3))
        loop = ('loop', 2, (('line', 'b', 2),))
        self.assert_error(desk, BadItem, 'value', loop, 'insert 0 2*(b:2)')
        self.assert_error(desk, BadItem, 'value', ('loop', 1, (('line', 'b', 2),) * 20),
                          'replace 0 1*(' + ' '.join(['b:2'] * 20) + ')')
        self.assertEqual([desk.run('replace 0 2*(b:2)'), desk.run('insert 0 2*(b:2)')], ['ok', 'ok'])

    def test_errors_of_the_functions(self):
        desk = Desk('a:1 b:2000')
        self.assert_error(desk, TooLarge, 'divisor', 2001, 'safe 4002')
        self.assert_error(desk, TooLarge, 'divisor', 2001, 'bias 2001 a')
        self.assert_error(desk, NoLine, 'value', 'c', 'bias 2001 c')
        for line in ('blockers', 'next 1', 'count 0', 'density'):
            self.assert_error(desk, TooLong, 'size', 2001, line)
        self.assertEqual([desk.run('safe 2'), desk.run('share a'), desk.run('pad 2000'), desk.run('looks 2000 0')],
                         ['yes', '1/2001', '0', 'a=1 b=1'])
        self.assertEqual([desk.run('replace 1 b:1999'), desk.run('blockers')], ['ok', '2 5'])

    def test_random_lines(self):
        found = {}
        for seed in range(8):
            rng = Random(921 + seed)
            # Every other one has nearly as many items as a program can have.
            program = random_items(rng, 2, 4, 4, 4) if seed % 2 else (('line', 'a', 2), ('line', 'b', 1)) * 9
            desk, bench = Desk(show_program(program)), Bench(program)
            for turn in range(150):
                item = show_program((rng.choice(random_items(rng, rng.randint(0, 4), 4, 4, 2)),))
                number, period = rng.randint(0, 6), rng.randint(0, 30)
                line = rng.choice((f'insert {number} {item}', f'insert {number} {item}', f'replace {number} {item}',
                                   f'delete {number}', 'undo', f'looks {period} {number}', f'seen {period} 3 {number}',
                                   f'safe {period}', 'blockers', f'next {period}', f'count {period}', 'density', 'totals',
                                   f'share {rng.choice("abcd")}', f'bias {period} {rng.choice("abcd")}', f'pad {period}',
                                   'length', 'show', rng.choice(good_lines()) + ' '))
                kind = self.assert_run(desk, bench, line)[0]
                found[kind] = found.get(kind, 0) + 1
                self.assertEqual(desk.run('show'), show_program(bench.program()))
                self.assertTrue(is_program(read_program(desk.run('show'))))
            self.assert_same_state(desk, bench)
        for kind in ('returned', BadCommand, BadIndex, NoLine, NothingToUndo, BadItem):
            self.assertGreater(found.get(kind, 0), 2, kind)


class ArgumentTest(DeskCase):

    def test_arguments_by_name(self):
        desk = Desk(text='a:3 b:3')
        self.assertEqual(desk.run(line='safe 3'), 'yes')

    def test_run_is_defined_in_the_class(self):
        self.assertIn('run', vars(Desk))

    def test_equal_calls_return_equal_results(self):
        desk = Desk('a:2 b:4 3*(a:1 idle:1)')
        for line in good_lines():
            if line.split(' ')[0] not in ('insert', 'replace', 'delete', 'undo'):
                self.assertEqual(outcome(desk.run, line), outcome(desk.run, line))

    def test_lines_that_only_tell_change_nothing(self):
        desk = Desk('a:2 b:4 3*(a:1 idle:1)')
        desk.run('insert 0 c:1')
        for line in good_lines():
            if line.split(' ')[0] not in ('insert', 'replace', 'delete', 'undo'):
                outcome(desk.run, line)
        self.assertEqual([desk.run('show'), desk.run('undo'), desk.run('show')],
                         ['c:1 a:2 b:4 3*(a:1 idle:1)', 'ok', 'a:2 b:4 3*(a:1 idle:1)'])

    def test_great_numbers(self):
        for program in deep_programs(931, 4):
            desk = Desk(show_program(program))
            self.assertEqual([desk.run('length'), desk.run('totals')], [str(size_of(program)), pairs(totals(program))])


if __name__ == '__main__':
    unittest.main()

"""Point 13, class Bench, and what point 4 says of it in (g)."""

import copy
import unittest
from random import Random

from evensamples.bench import Bench
from evensamples.errors import BadIndex, BadItem, BadProgram, LastItem, NothingToUndo, SampleError, TooLarge
from evensamples.looks import looks
from evensamples.padding import padded
from evensamples.programs import is_program, length, totals
from evensamples.safety import is_safe
from tests.cases import ErrorCase, outcome
from tests.samples import (HALF, LONG, MOST_ROUNDS, MOST_TICKS, PAIRS, SHORT, any_values, deep_programs, nested,
                           random_items, small_programs, variants, wide_programs)

LINE = ('line', 'a', 1)
ROW = (('line', 'a', 1), ('line', 'b', 2), ('loop', 3, (('line', 'c', 1), ('line', 'a', 2))), ('line', 'd', 4))
METHODS = ('program', 'length', 'totals', 'insert', 'replace', 'delete', 'wrap', 'undo', 'changes', 'safe', 'looks',
           'copy', '__eq__')


def loops(depth):
    """Return an item of so many loops within each other."""
    return nested(LINE, depth, lambda item: ('loop', 2, (item,)))


def full_program(many):
    """Return a program of so many items in all, from 42 to 60."""
    return tuple(('loop', 2, (LINE,) * inside) for inside in (19, 19, many - 41))


def history(bench):
    """Return all programs of a bench, from the one at hand back to the first one."""
    twin = bench.copy()
    programs = [twin.program()]
    while twin.changes():
        twin.undo()
        programs.append(twin.program())
    return programs


def changed_benches():
    """Return benches with and without changes, new ones with each call."""
    benches = [Bench(ROW), Bench((LINE,))]
    benches[0].insert(2, LINE)
    benches[0].delete(0)
    benches[0].wrap(1, 3, 7)
    benches[0].replace(0, ('line', 'z', 9))
    benches[0].undo()
    return benches


class BenchCase(ErrorCase):

    def assert_unchanged_by(self, bench, error_class, field, value, call, *arguments):
        """Check that the call raises this error, keeping this value, and that it leaves the bench as it was."""
        before = history(bench)
        changes = bench.changes()
        with self.assertRaises(error_class) as caught:
            call(*arguments)
        self.assertIs(type(caught.exception), error_class)
        if field is not None:
            kept = getattr(caught.exception, field)
            self.assertEqual((type(kept), kept), (type(value), value))
        self.assertEqual(history(bench), before)
        self.assertEqual(bench.changes(), changes)


class ExampleTest(BenchCase):

    def test_examples(self):
        bench = Bench(PAIRS)
        self.assertEqual([bench.wrap(0, 2, 3), bench.length(), bench.undo(), bench.delete(0), bench.changes()],
                         [None, 12, None, ('line', 'a', 2), 1])
        self.assert_unchanged_by(bench, BadIndex, 'value', 5, bench.insert, 5, ('line', 'c', 1))

    def test_further_examples(self):
        bench = Bench((('line', 'a', 2), ('line', 'b', 2)))
        self.assert_unchanged_by(bench, BadIndex, 'value', 0, bench.wrap, 0, 0, 3)
        bench = Bench((('line', 'a', 2),))
        self.assert_unchanged_by(bench, LastItem, None, None, bench.delete, 0)
        self.assert_unchanged_by(bench, BadItem, 'value', ('loop', 0, (('line', 'a', 2),)), bench.wrap, 0, 1, 0)


class CreationTest(BenchCase):

    def test_programs(self):
        for program in [SHORT, HALF, PAIRS, LONG] + small_programs(701, 30) + deep_programs(702, 8) + wide_programs(703):
            bench = Bench(program)
            self.assertEqual([bench.program(), bench.length(), bench.totals(), bench.changes()],
                             [program, length(program), totals(program), 0])
            self.assertIs(type(bench.program()), tuple)

    def test_each_limit_and_one_beyond(self):
        good = [(LINE,) * 20, full_program(60), (loops(5),), (('line', 'abcdefgh', MOST_TICKS),),
                (('loop', MOST_ROUNDS, (LINE,) * 20),), (('loop', 1, (LINE,)),)]
        bad = [(), (LINE,) * 21, full_program(61), (loops(6),), (('line', 'abcdefghi', 1),), (('line', '', 1),),
               (('line', 'a', MOST_TICKS + 1),), (('line', 'a', 0),), (('loop', MOST_ROUNDS + 1, (LINE,)),),
               (('loop', 0, (LINE,)),), (('loop', 1, (LINE,) * 21),), (('loop', 1, ()),)]
        for program in good:
            self.assertEqual(Bench(program).program(), program)
        for value in bad:
            with self.assertRaises(BadProgram) as caught:
                Bench(value)
            self.assertIs(caught.exception.value, value)

    def test_any_value(self):
        others = [wrong for program in (SHORT, ROW) for wrong in variants(program)]
        others += [SHORT[:at] + (part,) + SHORT[at + 1:] for at in range(3) for part in variants(SHORT[at])]
        for value in any_values() + others:
            before = copy.deepcopy(value)
            if is_program(value):
                self.assertEqual(Bench(value).program(), value)
            else:
                with self.assertRaises(BadProgram) as caught:
                    Bench(value)
                self.assertIs(type(caught.exception), BadProgram)
                self.assertIs(caught.exception.value, value)
            self.assertEqual(value, before)

    def test_padded_programs(self):
        self.assertEqual(Bench(padded(HALF, 1)).program(), HALF + (('line', 'idle', 1),))
        for value in (padded((LINE,) * 20, 1), padded(HALF, MOST_TICKS + 1)):
            self.assert_raises_with(BadProgram, 'value', value, Bench, value)


class EditTest(BenchCase):

    def test_insert_at_every_index(self):
        item = ('loop', 2, (('line', 'z', 5),))
        for program in (ROW, PAIRS, (LINE,)):
            for index in range(len(program) + 1):
                bench = Bench(program)
                self.assertIsNone(bench.insert(index, item))
                self.assertEqual(bench.program(), program[:index] + (item,) + program[index:])
                self.assertEqual([bench.changes(), bench.length()], [1, length(program) + 10])

    def test_replace_at_every_index(self):
        item = ('loop', 2, (('line', 'z', 5),))
        for program in (ROW, PAIRS, (LINE,)):
            for index in range(len(program)):
                bench = Bench(program)
                self.assertIsNone(bench.replace(index, item))
                self.assertEqual(bench.program(), program[:index] + (item,) + program[index + 1:])
                self.assertEqual(bench.changes(), 1)

    def test_delete_at_every_index(self):
        for program in (ROW, PAIRS, SHORT):
            for index in range(len(program)):
                bench = Bench(program)
                self.assertEqual(bench.delete(index), program[index])
                self.assertEqual(bench.program(), program[:index] + program[index + 1:])
                self.assertEqual(bench.changes(), 1)

    def test_delete_down_to_the_last_item(self):
        bench = Bench(ROW)
        for item in ROW[:-1]:
            self.assertEqual(bench.delete(0), item)
        self.assert_unchanged_by(bench, LastItem, None, None, bench.delete, 0)
        self.assertEqual([bench.program(), bench.changes()], [ROW[-1:], 3])

    def test_the_only_item_is_a_loop(self):
        bench = Bench((('loop', 2, (LINE, LINE)),))
        self.assert_unchanged_by(bench, LastItem, None, None, bench.delete, 0)

    def test_wrap_at_all_indices(self):
        for program in (ROW, PAIRS, (LINE,)):
            for first in range(len(program)):
                for stop in range(first + 1, len(program) + 1):
                    for rounds in (1, 2, MOST_ROUNDS):
                        bench = Bench(program)
                        self.assertIsNone(bench.wrap(first, stop, rounds))
                        loop = ('loop', rounds, program[first:stop])
                        self.assertEqual(bench.program(), program[:first] + (loop,) + program[stop:])
                        self.assertEqual(bench.changes(), 1)

    def test_an_edit_with_an_equal_item_is_a_change(self):
        bench = Bench(ROW)
        for index, item in enumerate(ROW):
            self.assertIsNone(bench.replace(index, item))
        self.assertEqual([bench.program(), bench.changes()], [ROW, 4])
        for left in (3, 2, 1, 0):
            bench.undo()
            self.assertEqual([bench.program(), bench.changes()], [ROW, left])
        self.assert_raises_with(NothingToUndo, None, None, bench.undo)


class BadIndexTest(BenchCase):

    def is_index(self, value, most):
        return type(value) is int and 0 <= value <= most

    def test_any_value(self):
        values = any_values() + [-1, -4, 5, 6, 20, (0,), [0], '0', {0: 0}]
        for many in (1, 4):
            for value in values + [many - 1, many, many + 1, -many]:
                bench = Bench(ROW[:many])
                for call, arguments, most in ((bench.insert, (LINE,), many), (bench.replace, (LINE,), many - 1),
                                              (bench.delete, (), many - 1), (bench.wrap, (many, 2), many - 1)):
                    if not self.is_index(value, most):
                        self.assert_unchanged_by(bench, BadIndex, 'value', value, call, value, *arguments)
                    elif many > 1:
                        call(value, *arguments)
                        self.assertEqual(bench.changes(), 1)
                        bench.undo()

    def test_the_very_value_is_kept(self):
        for value in ([0], {'a': [1]}, 'x' * 50, (True, [])):
            bench = Bench(ROW)
            for call in (lambda: bench.insert(value, LINE), lambda: bench.replace(value, LINE),
                         lambda: bench.delete(value), lambda: bench.wrap(value, 1, 1), lambda: bench.wrap(0, value, 1)):
                with self.assertRaises(BadIndex) as caught:
                    call()
                self.assertIs(caught.exception.value, value)

    def test_true_and_false_are_no_indices(self):
        for value in (True, False):
            bench = Bench(ROW)
            self.assert_unchanged_by(bench, BadIndex, 'value', value, bench.insert, value, LINE)
            self.assert_unchanged_by(bench, BadIndex, 'value', value, bench.replace, value, LINE)
            self.assert_unchanged_by(bench, BadIndex, 'value', value, bench.delete, value)
            self.assert_unchanged_by(bench, BadIndex, 'value', value, bench.wrap, value, 2, 2)
        self.assert_unchanged_by(bench, BadIndex, 'value', True, bench.wrap, 0, True, 2)

    def test_only_insert_takes_the_number_of_items(self):
        bench = Bench(ROW)
        self.assert_unchanged_by(bench, BadIndex, 'value', 4, bench.replace, 4, LINE)
        self.assert_unchanged_by(bench, BadIndex, 'value', 4, bench.delete, 4)
        self.assert_unchanged_by(bench, BadIndex, 'value', 4, bench.wrap, 4, 5, 2)
        self.assert_unchanged_by(bench, BadIndex, 'value', 5, bench.insert, 5, LINE)
        self.assertIsNone(bench.insert(4, LINE))
        self.assertEqual(bench.program(), ROW + (LINE,))

    def test_items_within_loops_do_not_count(self):
        bench = Bench((('loop', 2, (LINE,) * 5),))
        self.assert_unchanged_by(bench, BadIndex, 'value', 1, bench.replace, 1, LINE)
        self.assert_unchanged_by(bench, BadIndex, 'value', 2, bench.insert, 2, LINE)
        self.assert_unchanged_by(bench, BadIndex, 'value', 1, bench.delete, 1)

    def test_stop_for_any_value(self):
        for value in any_values() + [-1, 5, 6, 10 ** 9]:
            for first in range(4):
                bench = Bench(ROW)
                if type(value) is int and first < value <= 4:
                    self.assertIsNone(bench.wrap(first, value, 2))
                else:
                    self.assert_unchanged_by(bench, BadIndex, 'value', value, bench.wrap, first, value, 2)

    def test_first_comes_ahead_of_stop_and_rounds(self):
        bench = Bench(ROW)
        self.assert_unchanged_by(bench, BadIndex, 'value', -1, bench.wrap, -1, 9, 0)
        self.assert_unchanged_by(bench, BadIndex, 'value', None, bench.wrap, None, True, None)
        self.assert_unchanged_by(bench, BadIndex, 'value', 9, bench.wrap, 0, 9, 0)
        self.assert_unchanged_by(bench, BadIndex, 'value', 1, bench.wrap, 1, 1, [])
        self.assert_unchanged_by(bench, BadIndex, 'value', 1, bench.wrap, 2, 1, 1)

    def test_bad_index_comes_ahead_of_bad_item_and_last_item(self):
        for value in (-1, 2, True, None, '0'):
            bench = Bench((LINE,))
            for item in (None, LINE, loops(6), ('line', 'a', 0)):
                self.assert_unchanged_by(bench, BadIndex, 'value', value, bench.insert, value, item)
                self.assert_unchanged_by(bench, BadIndex, 'value', value, bench.replace, value, item)
            self.assert_unchanged_by(bench, BadIndex, 'value', value, bench.delete, value)
        bench = Bench((LINE,) * 20)
        self.assert_unchanged_by(bench, BadIndex, 'value', 21, bench.insert, 21, LINE)


class BadItemTest(BenchCase):

    def test_any_value(self):
        others = variants(LINE) + variants(('loop', 2, (LINE, LINE))) + [ROW, (), ('line', 'a', MOST_TICKS + 1)]
        for value in any_values() + others:
            bench = Bench(ROW)
            good = is_program((value,))
            for call, index in ((bench.insert, 0), (bench.insert, 4), (bench.replace, 0), (bench.replace, 3)):
                before = copy.deepcopy(value)
                if good:
                    self.assertIsNone(call(index, value))
                    self.assertIn(value, bench.program())
                    bench.undo()
                else:
                    self.assert_unchanged_by(bench, BadItem, 'value', value, call, index, value)
                self.assertEqual(value, before)

    def test_the_very_value_is_kept(self):
        for value in (['line', 'a', 1], {'a': []}, ('line', 'a', [])):
            bench = Bench(ROW)
            for call in (lambda: bench.insert(0, value), lambda: bench.replace(0, value)):
                with self.assertRaises(BadItem) as caught:
                    call()
                self.assertIs(caught.exception.value, value)

    def test_the_item_21(self):
        bench = Bench((LINE,) * 19)
        self.assertIsNone(bench.insert(19, LINE))
        for index in (0, 7, 20):
            self.assert_unchanged_by(bench, BadItem, 'value', LINE, bench.insert, index, LINE)
        self.assertIsNone(bench.replace(5, ('loop', 2, (LINE,) * 20)))

    def test_the_item_61(self):
        bench = Bench(full_program(59))
        self.assert_unchanged_by(bench, BadItem, 'value', ('loop', 1, (LINE,)), bench.insert, 3, ('loop', 1, (LINE,)))
        self.assertIsNone(bench.insert(0, LINE))
        self.assert_unchanged_by(bench, BadItem, 'value', LINE, bench.insert, 0, LINE)
        self.assert_unchanged_by(bench, BadItem, 'value', LINE, bench.insert, 4, LINE)
        loop = ('loop', 2, (LINE,))
        self.assert_unchanged_by(bench, BadItem, 'value', loop, bench.replace, 0, loop)
        self.assertIsNone(bench.replace(0, ('line', 'b', 9)))
        self.assertIsNone(bench.replace(1, loop))
        self.assertIsNone(bench.insert(0, loop))

    def test_loops_6_deep(self):
        bench = Bench(ROW)
        self.assertIsNone(bench.insert(0, loops(5)))
        self.assertIsNone(bench.replace(4, loops(5)))
        for call, index in ((bench.insert, 0), (bench.insert, 5), (bench.replace, 0)):
            self.assert_unchanged_by(bench, BadItem, 'value', loops(6), call, index, loops(6))

    def test_an_item_within_its_limits_but_too_deep_or_too_large(self):
        large = ('loop', 2, tuple(('loop', 2, (LINE,) * 3) for at in range(20)))
        bench = Bench((LINE,))
        for call in (bench.insert, bench.replace):
            self.assert_unchanged_by(bench, BadItem, 'value', large, call, 0, large)

    def test_wrap_with_any_rounds(self):
        for rounds in any_values() + [MOST_ROUNDS, MOST_ROUNDS + 1, 0, 1, -1, True, False]:
            for first, stop in ((0, 1), (1, 4), (0, 4)):
                bench = Bench(ROW)
                loop = ('loop', rounds, ROW[first:stop])
                if type(rounds) is int and 1 <= rounds <= MOST_ROUNDS:
                    self.assertIsNone(bench.wrap(first, stop, rounds))
                    self.assertEqual(bench.program(), ROW[:first] + (loop,) + ROW[stop:])
                else:
                    self.assert_unchanged_by(bench, BadItem, 'value', loop, bench.wrap, first, stop, rounds)
                    with self.assertRaises(BadItem) as caught:
                        bench.wrap(first, stop, rounds)
                    self.assertIs(caught.exception.value[1], rounds)

    def test_wrap_too_deep(self):
        bench = Bench((LINE, loops(4), LINE))
        self.assertIsNone(bench.wrap(0, 2, 1))
        for first, stop in ((0, 1), (0, 2)):
            loop = ('loop', 1, bench.program()[first:stop])
            self.assert_unchanged_by(bench, BadItem, 'value', loop, bench.wrap, first, stop, 1)
        self.assertIsNone(bench.wrap(1, 2, 1))

    def test_wrap_with_no_room(self):
        bench = Bench(full_program(60))
        loop = ('loop', 5, full_program(60)[1:3])
        self.assert_unchanged_by(bench, BadItem, 'value', loop, bench.wrap, 1, 3, 5)
        bench = Bench(full_program(59))
        self.assertIsNone(bench.wrap(1, 3, 5))

    def test_wrap_20_items(self):
        bench = Bench((LINE,) * 20)
        self.assertIsNone(bench.wrap(0, 20, 2))
        self.assertEqual(bench.program(), (('loop', 2, (LINE,) * 20),))


class UndoTest(BenchCase):

    def test_undo_of_each_method(self):
        for change in (lambda bench: bench.insert(1, LINE), lambda bench: bench.replace(2, LINE),
                       lambda bench: bench.delete(3), lambda bench: bench.wrap(1, 3, 2)):
            bench = Bench(ROW)
            change(bench)
            self.assertNotEqual(bench.program(), ROW)
            self.assertEqual(bench.changes(), 1)
            self.assertIsNone(bench.undo())
            self.assertEqual([bench.program(), bench.changes()], [ROW, 0])
            self.assert_unchanged_by(bench, NothingToUndo, None, None, bench.undo)

    def test_nothing_to_undo_in_a_new_bench(self):
        for program in small_programs(711, 10):
            bench = Bench(program)
            self.assert_raises_with(NothingToUndo, None, None, bench.undo)
            self.assertEqual([bench.program(), bench.changes()], [program, 0])

    def test_edits_behind_an_undo(self):
        bench = Bench(PAIRS)
        bench.insert(0, LINE)
        bench.delete(1)
        bench.undo()
        bench.replace(0, ('line', 'c', 3))
        self.assertEqual([bench.program(), bench.changes()], [(('line', 'c', 3),) + PAIRS, 2])
        bench.undo()
        self.assertEqual([bench.program(), bench.changes()], [(LINE,) + PAIRS, 1])
        bench.undo()
        bench.wrap(0, 2, 4)
        self.assertEqual([bench.program(), bench.changes()], [(('loop', 4, PAIRS),), 1])
        bench.undo()
        self.assertEqual([bench.program(), bench.changes()], [PAIRS, 0])
        self.assert_raises_with(NothingToUndo, None, None, bench.undo)

    def test_many_changes(self):
        bench = Bench((LINE,))
        for turn in range(1000):
            bench.replace(0, ('line', 'a', turn + 2))
        self.assertEqual(bench.changes(), 1000)
        for turn in range(999, -1, -1):
            bench.undo()
            self.assertEqual([bench.program(), bench.changes()], [(('line', 'a', turn + 1),), turn])
        self.assert_raises_with(NothingToUndo, None, None, bench.undo)


class ModelTest(BenchCase):
    """Random edits, good and bad ones, beside a list of programs."""

    def edit(self, rng, bench, programs):
        """Carry out one call and do the same to the list of programs, the one at hand being the last."""
        program = programs[-1]
        index, stop = rng.randint(-1, len(program) + 1), rng.randint(0, len(program) + 1)
        item = rng.choice(random_items(rng, rng.randint(0, 5), 4, 4, 2))
        rounds = rng.choice((0, 1, 2, 5, True))
        kind = rng.choice(('insert', 'insert', 'replace', 'delete', 'wrap', 'undo'))
        loop = ('loop', rounds, program[max(index, 0):stop])
        if kind == 'undo':
            if len(programs) == 1:
                return NothingToUndo, {}, bench.undo, ()
            programs.pop()
            return None, None, bench.undo, ()
        if not 0 <= index <= len(program) - (kind != 'insert'):
            arguments = {'insert': (item,), 'replace': (item,), 'delete': (), 'wrap': (stop, rounds)}[kind]
            return BadIndex, {'value': index}, getattr(bench, kind), (index, *arguments)
        if kind == 'delete':
            if len(program) == 1:
                return LastItem, {}, bench.delete, (index,)
            programs.append(program[:index] + program[index + 1:])
            return None, program[index], bench.delete, (index,)
        if kind == 'wrap' and not index < stop <= len(program):
            return BadIndex, {'value': stop}, bench.wrap, (index, stop, rounds)
        new = {'insert': program[:index] + (item,) + program[index:],
               'replace': program[:index] + (item,) + program[index + 1:],
               'wrap': program[:index] + (loop,) + program[stop:]}[kind]
        arguments = (index, stop, rounds) if kind == 'wrap' else (index, item)
        if not is_program(new):
            return BadItem, {'value': loop if kind == 'wrap' else item}, getattr(bench, kind), arguments
        programs.append(new)
        return None, None, getattr(bench, kind), arguments

    def test_random_edits(self):
        found = {}
        for seed in range(30):
            rng = Random(720 + seed)
            program = random_items(rng, 2, 4, 4, 4)
            bench, programs = Bench(program), [program]
            for turn in range(200):
                expected, kept, call, arguments = self.edit(rng, bench, programs)
                found[expected] = found.get(expected, 0) + 1
                if expected is None:
                    self.assertEqual(call(*arguments), kept)
                else:
                    self.assertEqual(outcome(call, *arguments), (expected, kept))
                self.assertEqual([bench.program(), bench.changes()], [programs[-1], len(programs) - 1])
                self.assertTrue(is_program(bench.program()))
                fresh = Bench(programs[-1])
                self.assertEqual([bench.length(), bench.totals()], [fresh.length(), fresh.totals()])
                self.assertTrue(bench == fresh)
            self.assertEqual(history(bench), programs[::-1])
        for error_class in (None, BadIndex, BadItem, LastItem, NothingToUndo):
            self.assertGreater(found[error_class], 5)


class CopyTest(BenchCase):

    def test_a_copy_has_the_same_program_and_changes(self):
        for bench in changed_benches():
            twin = bench.copy()
            self.assertIs(type(twin), Bench)
            self.assertIsNot(twin, bench)
            self.assertEqual([twin.program(), twin.changes()], [bench.program(), bench.changes()])
            self.assertEqual(history(twin), history(bench))
            self.assertTrue(twin == bench)

    def test_the_two_are_independent_in_both_directions(self):
        edits = (lambda bench: bench.insert(0, LINE), lambda bench: bench.replace(0, ('line', 'y', 8)),
                 lambda bench: bench.delete(0), lambda bench: bench.wrap(0, 2, 6), lambda bench: bench.undo())
        for edit in edits:
            for back in (False, True):
                bench = changed_benches()[0]
                twin = bench.copy()
                edited, other = (twin, bench) if back else (bench, twin)
                before = history(other)
                edit(edited)
                self.assertNotEqual(history(edited), before)
                self.assertEqual(history(other), before)
                edit(other)
                self.assertEqual(history(other), history(edited))

    def test_undo_in_one_of_them(self):
        bench = Bench(PAIRS)
        bench.insert(0, LINE)
        twin = bench.copy()
        bench.undo()
        self.assertEqual([bench.program(), twin.program()], [PAIRS, (LINE,) + PAIRS])
        self.assert_raises_with(NothingToUndo, None, None, bench.undo)
        twin.delete(2)
        bench.insert(2, LINE)
        bench.insert(2, LINE)
        self.assertEqual([bench.changes(), twin.changes()], [2, 2])
        twin.undo()
        twin.undo()
        self.assertEqual([twin.program(), bench.program()], [PAIRS, PAIRS + (LINE, LINE)])
        self.assert_raises_with(NothingToUndo, None, None, twin.undo)

    def test_copies_of_copies(self):
        bench = changed_benches()[0]
        twin = bench.copy().copy()
        bench.undo()
        self.assertEqual(twin.changes(), bench.changes() + 1)


class EqualTest(BenchCase):

    def test_equal_programs(self):
        for program in small_programs(731, 10) + [LONG, ROW]:
            one, other = Bench(program), Bench(copy.deepcopy(program))
            self.assertIs(one == other, True)
            self.assertIs(one != other, False)
            self.assertIs(one == one, True)

    def test_other_programs(self):
        # The same ticks written otherwise are another program.
        for program in (SHORT, PAIRS, (('loop', 1, HALF),), HALF[:1], HALF[::-1], HALF + HALF):
            self.assertIs(Bench(HALF) == Bench(program), False)
            self.assertIs(Bench(HALF) != Bench(program), True)

    def test_changes_do_not_count(self):
        bench = Bench(PAIRS)
        bench.insert(0, LINE)
        self.assertIs(bench == Bench(PAIRS), False)
        self.assertIs(bench == Bench((LINE,) + PAIRS), True)
        bench.delete(0)
        self.assertIs(bench == Bench(PAIRS), True)
        self.assertEqual(bench.changes(), 2)

    def test_a_bench_equals_nothing_else(self):
        bench = Bench((LINE,))
        for value in any_values() + [bench.program(), [bench], (bench,), 'Bench', {'program': bench.program()}]:
            self.assertIs(bench == value, False)
            self.assertIs(value == bench, False)
            self.assertIs(bench != value, True)
            self.assertIs(value != bench, True)


class AnswerTest(BenchCase):

    def test_safe_and_looks_as_the_functions(self):
        rng = Random(741)
        programs = small_programs(742, 25) + deep_programs(743, 6) + wide_programs(744) + [LONG, (('line', 'a', 4002),)]
        errors = 0
        for program in programs:
            bench = Bench(program)
            for period in (1, 2, 3, 6, rng.randint(1, 2000), 2000, 2001, 10 ** 30, rng.randint(1, 10 ** 30), 10 ** 18):
                found = outcome(bench.safe, period)
                self.assertEqual(found, outcome(is_safe, program, period))
                errors += found[0] is TooLarge
            for period in (1, 2, 3, rng.randint(1, 2000)):
                for start in (0, 1, rng.randint(0, 10 ** 20)):
                    self.assertEqual(bench.looks(period, start), looks(program, period, start))
            self.assertEqual([bench.program(), bench.changes()], [program, 0])
        self.assertGreater(errors, 5)

    def test_answers_behind_changes(self):
        bench = changed_benches()[0]
        while bench.changes():
            program = bench.program()
            self.assertEqual([bench.length(), bench.totals()], [length(program), totals(program)])
            self.assertEqual([bench.safe(period) for period in range(1, 40)],
                             [is_safe(program, period) for period in range(1, 40)])
            self.assertEqual([bench.looks(period, 3) for period in range(1, 20)],
                             [looks(program, period, 3) for period in range(1, 20)])
            bench.undo()

    def test_too_large(self):
        bench = Bench((('line', 'a', 4002),))
        self.assert_unchanged_by(bench, TooLarge, 'divisor', 2001, bench.safe, 2001)


class ArgumentTest(BenchCase):

    def test_each_method_is_defined_in_the_class(self):
        for name in METHODS:
            self.assertIn(name, vars(Bench))

    def test_arguments_by_name(self):
        bench = Bench(program=PAIRS)
        self.assertIsNone(bench.insert(item=LINE, index=0))
        self.assertIsNone(bench.replace(item=('line', 'c', 5), index=0))
        self.assertEqual(bench.delete(index=0), ('line', 'c', 5))
        self.assertIsNone(bench.wrap(rounds=2, stop=2, first=1))
        self.assertEqual(bench.program(), (('line', 'a', 2), ('loop', 2, (('line', 'b', 2),))))
        self.assertIs(bench.safe(period=1), True)
        self.assertEqual(bench.looks(start=1, period=2), (('a', 1), ('b', 2)))

    def test_no_argument_is_changed(self):
        for value in any_values():
            before = copy.deepcopy(value)
            bench = Bench(ROW)
            for call in (lambda: Bench(value), lambda: bench.insert(value, value), lambda: bench.insert(0, value),
                         lambda: bench.replace(1, value), lambda: bench.delete(value),
                         lambda: bench.wrap(value, value, value), lambda: bench.wrap(0, value, value),
                         lambda: bench.wrap(0, 1, value), lambda: bench == value):
                try:
                    call()
                except SampleError:
                    pass
            self.assertEqual(value, before)

    def test_edits_do_not_change_programs_that_were_returned(self):
        bench = Bench(ROW)
        before = copy.deepcopy(ROW)
        program = bench.program()
        bench.insert(0, LINE)
        bench.wrap(0, 5, 2)
        self.assertEqual([program, ROW], [before, before])


if __name__ == '__main__':
    unittest.main()

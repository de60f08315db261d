"""Point 15, and what point 2 says of errors."""

import copy
import unittest

from evensamples import errors
from tests.samples import any_values

FIELDS = {
    'BadProgram': 'value', 'NoTick': 'value', 'NoLine': 'value', 'TooLong': 'size', 'NotFlat': None,
    'TooLarge': 'divisor', 'OtherLength': 'size', 'BadIndex': 'value', 'BadItem': 'value', 'LastItem': None,
    'NothingToUndo': None, 'BadText': 'position', 'BadCommand': 'line',
}


def created(name, value=0):
    error_class = getattr(errors, name)
    return error_class() if FIELDS[name] is None else error_class(value)


class ErrorTest(unittest.TestCase):

    def test_there_are_these_errors_and_no_others(self):
        found = {name for name, value in vars(errors).items() if isinstance(value, type)}
        self.assertEqual(found, set(FIELDS) | {'SampleError'})

    def test_each_is_defined_in_errors(self):
        for name in list(FIELDS) + ['SampleError']:
            self.assertEqual(getattr(errors, name).__module__, 'evensamples.errors')
            self.assertEqual(getattr(errors, name).__name__, name)

    def test_each_is_directly_below_sample_error(self):
        self.assertEqual(errors.SampleError.__bases__, (ValueError,))
        for name in FIELDS:
            self.assertEqual(getattr(errors, name).__bases__, (errors.SampleError,), name)

    def test_none_is_an_instance_of_another_one(self):
        for name in FIELDS:
            error = created(name)
            self.assertIsInstance(error, errors.SampleError)
            self.assertIsInstance(error, ValueError)
            for other in FIELDS:
                self.assertEqual(isinstance(error, getattr(errors, other)), name == other)

    def test_arguments_are_kept_by_position_and_by_name(self):
        for name, field in FIELDS.items():
            if field is None:
                continue
            for value in any_values() + [10 ** 5000]:
                before = copy.deepcopy(value)
                for error in (getattr(errors, name)(value), getattr(errors, name)(**{field: value})):
                    self.assertIs(getattr(error, field), value)
                    self.assertEqual(vars(error), {field: value})
                    self.assertIsInstance(str(error), str)
                self.assertEqual(value, before)

    def test_errors_without_arguments(self):
        for name, field in FIELDS.items():
            if field is None:
                self.assertEqual(vars(getattr(errors, name)()), {})
        self.assertEqual(vars(errors.SampleError()), {})

    def test_sample_error_takes_any_value(self):
        for value in any_values():
            self.assertIsInstance(errors.SampleError(value), ValueError)

    def test_wrong_numbers_of_arguments(self):
        for name, field in FIELDS.items():
            if field is None:
                self.assertRaises(TypeError, getattr(errors, name), 0)
            else:
                self.assertRaises(TypeError, getattr(errors, name))
                self.assertRaises(TypeError, getattr(errors, name), 0, 1)
                self.assertRaises(TypeError, getattr(errors, name), other=0)

    def test_errors_are_raised_and_caught(self):
        for name in FIELDS:
            with self.assertRaises(getattr(errors, name)) as caught:
                raise created(name, ['x'])
            if FIELDS[name] is not None:
                self.assertEqual(getattr(caught.exception, FIELDS[name]), ['x'])

    def test_errors_can_be_copied(self):
        for name in FIELDS:
            error = copy.copy(created(name, 7))
            self.assertEqual(vars(error), vars(created(name, 7)))


if __name__ == '__main__':
    unittest.main()

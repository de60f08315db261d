"""What the tests check in the same way everywhere."""

import unittest

from evensamples.errors import SampleError


def outcome(call, *arguments):
    """Return what the call returns, or the class and the fields of the error that it raises."""
    try:
        return 'returned', call(*arguments)
    except SampleError as error:
        return type(error), vars(error)


class ErrorCase(unittest.TestCase):

    def assert_raises_with(self, error_class, field, value, call, *arguments):
        """Check that the call raises just this error, and what it keeps (nothing if field is None)."""
        with self.assertRaises(error_class) as caught:
            call(*arguments)
        self.assertIs(type(caught.exception), error_class)
        self.assertIsInstance(caught.exception, SampleError)
        if field is None:
            self.assertEqual(vars(caught.exception), {})
        else:
            kept = getattr(caught.exception, field)
            self.assertEqual((type(kept), kept), (type(value), value))

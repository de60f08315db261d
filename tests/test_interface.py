"""The interface at the end of the document, and the examples of the README."""

import doctest
import importlib
import inspect
import unittest
from pathlib import Path

ROOT = Path(__file__).resolve().parent.parent

FUNCTIONS = {
    'programs': {
        'is_program': ['value'], 'length': ['program'], 'lines_of': ['program'], 'line_at': ['program', 'tick'],
        'totals': ['program'], 'totals_between': ['program', 'first', 'stop'],
        'nth_tick': ['program', 'name', 'number'], 'expanded': ['program'],
    },
    'classes': {
        'class_table': ['program', 'modulus'], 'is_even': ['program', 'modulus'],
        'uneven_pair': ['program', 'modulus'], 'shows_uneven': ['program', 'modulus', 'value'],
    },
    'looks': {
        'look_count': ['program', 'period', 'start'], 'looks': ['program', 'period', 'start'],
        'seen': ['program', 'period', 'start', 'count'],
    },
    'flat': {
        'floor_sum': ['count', 'step', 'shift', 'modulus'], 'flat_looks': ['program', 'period', 'start'],
    },
    'safety': {
        'is_safe': ['program', 'period'], 'blockers': ['program'], 'is_blocker': ['program', 'value'],
        'next_safe': ['program', 'bound'], 'count_safe': ['program', 'most'], 'nth_safe': ['program', 'number'],
        'density': ['program'],
    },
    'bias': {
        'share': ['program', 'name'], 'seen_share': ['program', 'period', 'start', 'name'],
        'most_biased': ['program', 'period', 'name'],
    },
    'telling': {
        'look_alike': ['one', 'other', 'period'], 'told_apart': ['one', 'other', 'period'], 'telling': ['one', 'other'],
    },
    'plans': {
        'weights': ['length', 'samplers'], 'shows_weights': ['length', 'samplers', 'value'],
        'blind_pair': ['length', 'samplers'], 'shows_blind': ['length', 'samplers', 'value'],
        'is_exact_cover': ['samplers'],
    },
    'padding': {
        'padded': ['program', 'ticks'], 'least_padding': ['program', 'period'],
    },
    'texts': {
        'show_program': ['program'], 'read_program': ['text'],
    },
}
CLASSES = {
    'bench': {
        'Bench': {
            '__init__': ['program'], 'program': [], 'length': [], 'totals': [], 'insert': ['index', 'item'],
            'replace': ['index', 'item'], 'delete': ['index'], 'wrap': ['first', 'stop', 'rounds'], 'undo': [],
            'changes': [], 'safe': ['period'], 'looks': ['period', 'start'], 'copy': [], '__eq__': ['other'],
        },
    },
    'desk': {
        'Desk': {'__init__': ['text'], 'run': ['line']},
    },
}


class InterfaceTest(unittest.TestCase):

    def assert_function(self, function, module, arguments):
        self.assertTrue(inspect.isfunction(function))
        self.assertEqual(function.__module__, module.__name__)
        parameters = inspect.signature(function).parameters.values()
        self.assertEqual([parameter.name for parameter in parameters], arguments)
        for parameter in parameters:
            self.assertEqual(parameter.kind, parameter.POSITIONAL_OR_KEYWORD)

    def test_functions_stand_in_their_files_with_their_arguments(self):
        for module_name, functions in FUNCTIONS.items():
            module = importlib.import_module('evensamples.' + module_name)
            for name, arguments in functions.items():
                self.assert_function(getattr(module, name), module, arguments)

    def test_classes_define_their_methods_themselves(self):
        for module_name, classes in CLASSES.items():
            module = importlib.import_module('evensamples.' + module_name)
            for name, methods in classes.items():
                found = getattr(module, name)
                self.assertEqual([found.__module__, found.__bases__], [module.__name__, (object,)])
                for method, arguments in methods.items():
                    self.assert_function(vars(found)[method], module, ['self'] + arguments)


class ReadmeTest(unittest.TestCase):

    def test_examples(self):
        results = doctest.testfile(str(ROOT / 'README.md'), module_relative=False)
        self.assertGreater(results.attempted, 0)
        self.assertEqual(results.failed, 0)


if __name__ == '__main__':
    unittest.main()

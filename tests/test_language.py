"""The rules of the language that can be seen without much ado. The rest is up to the reader."""

import ast
import re
import unittest
from pathlib import Path

PACKAGE = Path(__file__).resolve().parent.parent / 'evensamples'
WORDS = ('type typing typing_extensions enum Enum IntEnum StrEnum Flag IntFlag Generic Protocol ABC ABCMeta namedtuple '
         'NamedTuple TypedDict TYPE_CHECKING abstractmethod').split()
PARTS = ('dataclass', 'overload', 'contextmanager')
BUILTINS = set('''len range enumerate zip min max sum abs sorted reversed int str bool bytes list tuple dict set frozenset
    isinstance ord repr any all divmod iter next Exception ValueError TypeError KeyError IndexError LookupError
    ZeroDivisionError ArithmeticError OverflowError RuntimeError NotImplementedError AttributeError StopIteration
    NotImplemented'''.split())
DOUBLE_UNDERSCORE = ('__init__', '__eq__')


def files():
    return sorted(path for path in PACKAGE.iterdir() if path.name != '__pycache__')


def trees():
    return [(path, ast.parse(path.read_text('utf-8'))) for path in files()]


class TextTest(unittest.TestCase):

    def test_the_folder_holds_python_files_only(self):
        for path in files():
            self.assertTrue(path.is_file())
            self.assertRegex(path.name, r'^[a-z_][a-z0-9_]*\.py$')

    def test_characters_and_sizes(self):
        for path in files():
            text = path.read_text('utf-8')
            self.assertEqual(re.findall(r'[^ -~\n]', text), [], path)
            rows = text.split('\n')
            self.assertLessEqual(len(rows), 399, path)
            self.assertLessEqual(max(len(row) for row in rows), 120, path)

    def test_words(self):
        for path in files():
            text = path.read_text('utf-8')
            self.assertEqual([word for word in WORDS if re.search(rf'\b{word}\b', text)], [], path)
            self.assertEqual([part for part in PARTS if part in text], [], path)


class TreeTest(unittest.TestCase):

    def test_imports_name_the_file_that_defines_the_name(self):
        for path, tree in trees():
            for node in ast.walk(tree):
                self.assertNotIsInstance(node, ast.Import, path)
                if isinstance(node, ast.ImportFrom):
                    self.assertEqual(node.level, 0)
                    package, name = node.module.split('.')
                    self.assertEqual(package, 'evensamples')
                    source = ast.parse((PACKAGE / f'{name}.py').read_text('utf-8'))
                    defined = [part.name for part in source.body if isinstance(part, (ast.FunctionDef, ast.ClassDef))]
                    defined += [part.targets[0].id for part in source.body if isinstance(part, ast.Assign)]
                    for alias in node.names:
                        self.assertIn(alias.name, defined, path)

    def test_functions_are_short(self):
        for path, tree in trees():
            for node in ast.walk(tree):
                if isinstance(node, ast.FunctionDef):
                    self.assertLessEqual(node.end_lineno - node.lineno + 1, 40, (path, node.name))

    def test_strings_and_numbers(self):
        for path, tree in trees():
            for node in ast.walk(tree):
                if isinstance(node, ast.Constant):
                    self.assertNotIsInstance(node.value, float, path)
                    if isinstance(node.value, str):
                        self.assertNotIn('%', node.value, path)

    def test_operators_and_expressions(self):
        # Generator expressions are barred in most places once a class has __eq__, so lists stand everywhere.
        for path, tree in trees():
            for node in ast.walk(tree):
                self.assertNotIsInstance(node, (ast.Div, ast.MatMult, ast.Global, ast.Await, ast.GeneratorExp), path)
                if isinstance(node, ast.Compare) and isinstance(node.ops[0], (ast.Is, ast.IsNot)):
                    self.assertIn(getattr(node.comparators[0], 'value', 0), (None, True, False), path)
                if isinstance(node, ast.BinOp) and isinstance(node.op, ast.Pow):
                    self.assertIsInstance(node.right, ast.Constant, path)

    def test_names(self):
        names_of_python = set(dir(__import__('builtins')))
        for path, tree in trees():
            stored = [node.id for node in ast.walk(tree) if isinstance(node, ast.Name) and isinstance(node.ctx, ast.Store)]
            stored += [node.arg for node in ast.walk(tree) if isinstance(node, ast.arg)]
            stored += [node.name for node in ast.walk(tree) if isinstance(node, (ast.FunctionDef, ast.ClassDef))]
            imported = [alias.name for node in ast.walk(tree) if isinstance(node, ast.ImportFrom) for alias in node.names]
            for name in stored:
                self.assertNotIn(name, names_of_python, path)
                self.assertNotIn(name, imported, path)
                self.assertTrue(not name.startswith('_') or name in DOUBLE_UNDERSCORE, (path, name))
            read = {node.id for node in ast.walk(tree) if isinstance(node, ast.Name)} & names_of_python
            self.assertEqual(read - BUILTINS, set(), path)


if __name__ == '__main__':
    unittest.main()

"""The rules of the language that can be seen without much ado. The rest is up to the reader."""

import ast
import re
import unittest
from pathlib import Path

PACKAGE = Path(__file__).resolve().parent.parent / 'evensamples'
WORDS = ('type typing typing_extensions enum Enum IntEnum StrEnum Flag IntFlag Generic Protocol ABC ABCMeta namedtuple '
         'NamedTuple TypedDict TYPE_CHECKING abstractmethod').split()
PARTS = ('dataclass', 'overload', 'contextmanager')
BUILTINS = set('''len range enumerate zip min max sum abs sorted reversed int str bool bytes list tuple dict set frozenset
    isinstance ord repr any all divmod iter next Exception ValueError TypeError KeyError IndexError LookupError
    ZeroDivisionError ArithmeticError OverflowError RuntimeError NotImplementedError AttributeError StopIteration
    NotImplemented'''.split())
DOUBLE_UNDERSCORE = ('__init__', '__eq__')
METHODS = set('''append clear copy count endswith extend find get index insert isalnum isalpha isdigit islower isspace
    isupper items join keys ljust lower lstrip partition pop remove replace reverse rfind rjust rpartition rsplit rstrip
    setdefault split splitlines startswith strip update upper values zfill bit_length'''.split())


def files():
    return sorted(path for path in PACKAGE.iterdir() if path.name != '__pycache__')


def trees():
    return [(path, ast.parse(path.read_text('utf-8'))) for path in files()]


class TextTest(unittest.TestCase):

    def test_the_folder_holds_python_files_only(self):
        for path in files():
            self.assertTrue(path.is_file())
            self.assertRegex(path.name, r'^[a-z_][a-z0-9_]*\.py$')

    def test_characters_and_sizes(self):
        for path in files():
            text = path.read_text('utf-8')
            self.assertEqual(re.findall(r'[^ -~\n]', text), [], path)
            rows = text.split('\n')
            self.assertLessEqual(len(rows), 399, path)
            self.assertLessEqual(max(len(row) for row in rows), 120, path)

    def test_words(self):
        for path in files():
            text = path.read_text('utf-8')
            self.assertEqual([word for word in WORDS if re.search(rf'\b{word}\b', text)], [], path)
            self.assertEqual([part for part in PARTS if part in text], [], path)


class TreeTest(unittest.TestCase):

    def test_imports_name_the_file_that_defines_the_name(self):
        for path, tree in trees():
            for node in ast.walk(tree):
                self.assertNotIsInstance(node, ast.Import, path)
                if isinstance(node, ast.ImportFrom):
                    self.assertEqual(node.level, 0)
                    package, name = node.module.split('.')
                    self.assertEqual(package, 'evensamples')
                    source = ast.parse((PACKAGE / f'{name}.py').read_text('utf-8'))
                    defined = [part.name for part in source.body if isinstance(part, (ast.FunctionDef, ast.ClassDef))]
                    defined += [part.targets[0].id for part in source.body if isinstance(part, ast.Assign)]
                    for alias in node.names:
                        self.assertIn(alias.name, defined, path)

    def test_functions_are_short(self):
        for path, tree in trees():
            for node in ast.walk(tree):
                if isinstance(node, ast.FunctionDef):
                    self.assertLessEqual(node.end_lineno - node.lineno + 1, 40, (path, node.name))

    def test_strings_and_numbers(self):
        for path, tree in trees():
            for node in ast.walk(tree):
                if isinstance(node, ast.Constant):
                    self.assertNotIsInstance(node.value, float, path)
                    if isinstance(node.value, str):
                        self.assertNotIn('%', node.value, path)

    def test_operators_and_expressions(self):
        # Generator expressions are barred in most places once a class has __eq__, so lists stand everywhere.
        for path, tree in trees():
            for node in ast.walk(tree):
                self.assertNotIsInstance(node, (ast.Div, ast.MatMult, ast.Global, ast.Await, ast.GeneratorExp), path)
                if isinstance(node, ast.Compare) and isinstance(node.ops[0], (ast.Is, ast.IsNot)):
                    self.assertIn(getattr(node.comparators[0], 'value', 0), (None, True, False), path)
                if isinstance(node, ast.BinOp) and isinstance(node.op, ast.Pow):
                    self.assertIsInstance(node.right, ast.Constant, path)

    def test_names(self):
        names_of_python = set(dir(__import__('builtins')))
        for path, tree in trees():
            stored = [node.id for node in ast.walk(tree) if isinstance(node, ast.Name) and isinstance(node.ctx, ast.Store)]
            stored += [node.arg for node in ast.walk(tree) if isinstance(node, ast.arg)]
            # A method may have the name of an imported function: it is no variable of the file.
            methods = [part for node in ast.walk(tree) if isinstance(node, ast.ClassDef) for part in node.body]
            stored += [node.name for node in ast.walk(tree)
                       if isinstance(node, (ast.FunctionDef, ast.ClassDef)) and node not in methods]
            imported = [alias.name for node in ast.walk(tree) if isinstance(node, ast.ImportFrom) for alias in node.names]
            for name in stored:
                self.assertNotIn(name, names_of_python, path)
                self.assertNotIn(name, imported, path)
                self.assertTrue(not name.startswith('_') or name in DOUBLE_UNDERSCORE, (path, name))
            read = {node.id for node in ast.walk(tree) if isinstance(node, ast.Name)} & names_of_python
            self.assertEqual(read - BUILTINS, set(), path)

    def test_methods_and_attributes(self):
        methods, attributes, called, read = set(), set(), set(), set()
        for path, tree in trees():
            nodes = list(ast.walk(tree))
            methods |= {part.name for node in nodes if isinstance(node, ast.ClassDef) for part in node.body
                        if isinstance(part, ast.FunctionDef)}
            attributes |= {node.attr for node in nodes if isinstance(node, ast.Attribute) and isinstance(node.ctx, ast.Store)}
            called |= {node.func.attr for node in nodes
                       if isinstance(node, ast.Call) and isinstance(node.func, ast.Attribute)}
            read |= {node.attr for node in nodes if isinstance(node, ast.Attribute) and isinstance(node.ctx, ast.Load)}
        self.assertEqual(methods & attributes, set())
        self.assertEqual(called - methods - METHODS, set())
        self.assertEqual(read - called - attributes, set())
        of_builtins = {name for kind in (str, int, list, tuple, dict, set, bytes) for name in dir(kind)}
        self.assertEqual(attributes & of_builtins, set())
        self.assertEqual((methods & of_builtins) - METHODS - set(DOUBLE_UNDERSCORE), set())

    def test_errors_are_raised_and_caught_by_name(self):
        for path, tree in trees():
            for node in ast.walk(tree):
                if isinstance(node, ast.Raise):
                    self.assertIsInstance(node.exc.func, ast.Name, path)
                if isinstance(node, ast.ExceptHandler):
                    self.assertIsInstance(node.type, ast.Name, path)
                    self.assertNotIn(node.type.id, BUILTINS, path)

    def test_module_level(self):
        for path, tree in trees():
            names = []
            for node in tree.body:
                self.assertIsInstance(node, (ast.Expr, ast.ImportFrom, ast.Assign, ast.FunctionDef, ast.ClassDef), path)
                if isinstance(node, ast.Expr):
                    self.assertIs(node, tree.body[0])
                if isinstance(node, ast.ImportFrom):
                    names.extend(alias.name for alias in node.names)
                elif isinstance(node, ast.Assign):
                    names.append(node.targets[0].id)
                elif isinstance(node, (ast.FunctionDef, ast.ClassDef)):
                    names.append(node.name)
            self.assertEqual(len(names), len(set(names)), path)

    def test_no_two_files_import_from_each_other(self):
        above = {path.stem: [node.module.split('.')[1] for node in tree.body if isinstance(node, ast.ImportFrom)]
                 for path, tree in trees()}
        while above:
            free = [name for name in above if not [other for other in above[name] if other in above]]
            self.assertTrue(free)
            above = {name: above[name] for name in above if name not in free}


if __name__ == '__main__':
    unittest.main()

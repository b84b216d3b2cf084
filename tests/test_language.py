"""../shared/LANGUAGE.md, as far as a short look at the files can see it, and the interface."""

import ast
import builtins
import inspect
import pathlib
import re
import unittest

from firsttouch import lates, parting, programs, rings, sets, stories, worlds

PACKAGE = pathlib.Path(__file__).resolve().parent.parent / 'firsttouch'
FILES = sorted(path for path in PACKAGE.rglob('*') if '__pycache__' not in path.parts)

ALLOWED_BUILTINS = set('''
    len range enumerate zip min max sum abs sorted reversed int str bool bytes list tuple dict set
    isinstance ord repr any all divmod iter next map super classmethod staticmethod property
    Exception ValueError TypeError KeyError IndexError LookupError NotImplemented
'''.split())
ALLOWED_DUNDERS = {'__init__', '__iter__', '__len__', '__contains__', '__or__', '__and__', '__sub__'}
BARRED_NODES = (
    ast.Global, ast.AsyncFunctionDef, ast.AsyncFor, ast.AsyncWith, ast.Await, ast.AnnAssign,
    ast.Div, ast.MatMult, ast.Import,
)
BARRED_WORDS = set('''
    register mro elements open input law version_info with_traceback add_note type typing enum Enum
    eval exec globals locals vars dir id compile os sys gc importlib namedtuple NamedTuple
'''.split())

INTERFACE = {
    programs.Program: {
        '__init__': ['modules'], 'places': [], 'modules': [], 'names': [], 'names_of': ['module'],
        'rows': ['module'], 'text': [], 'read': ['text'], '__iter__': [],
    },
    lates.Late: {
        'whole': ['program'], 'empty': ['program'], 'of': ['program', 'places'], 'places': [],
        '__contains__': ['place'], '__len__': [], '__or__': ['other'], '__and__': ['other'],
        '__sub__': ['other'],
    },
    worlds.World: {
        '__init__': ['program', 'late'], 'load': ['module'], 'look': ['module', 'part'],
        'call': ['module', 'part'], 'seen': ['module'], 'do': ['deed'], 'table': [], 'ran': [],
        'begun': [], 'twin': [], 'state': [],
    },
}
OPTIONS = ['eye', 'table', 'most']
FUNCTIONS = {
    parting.parting: ['one', 'other', *OPTIONS],
    parting.notice: ['program', 'late', *OPTIONS],
    parting.paper: ['program', 'late', *OPTIONS],
    parting.paper_holds: ['program', 'late', 'paper', 'eye', 'table'],
    parting.warm_up: ['one', 'other', *OPTIONS],
    stories.story: ['program', 'late', 'client'],
    stories.touches: ['program', 'late', 'client'],
    sets.classes: ['program', *OPTIONS],
    sets.hidden: ['program', *OPTIONS],
    sets.greatest: ['program', *OPTIONS],
    sets.nearest: ['program', 'late', *OPTIONS],
    sets.quickest: ['program', 'clients', *OPTIONS],
    rings.rings: ['program'],
}
DEFAULTS = {'eye': 'all', 'table': False, 'most': 100}
CLASS_METHODS = {'read', 'whole', 'empty', 'of'}


def imported_files(tree):
    return [node.module for node in tree.body if isinstance(node, ast.ImportFrom)]


def bound_names(function):
    """The names that a function binds: parameters and variables, those of functions in it too."""
    found = []
    for node in ast.walk(function):
        if isinstance(node, ast.arg):
            found.append(node.arg)
        elif isinstance(node, ast.Name) and not isinstance(node.ctx, ast.Load):
            found.append(node.id)
    return found


class TestFiles(unittest.TestCase):

    def setUp(self):
        self.texts = {path.name: path.read_text('utf-8') for path in FILES}
        self.trees = {name: ast.parse(text) for name, text in self.texts.items()}

    def nodes(self, *kinds):
        for name, tree in self.trees.items():
            for node in ast.walk(tree):
                if isinstance(node, kinds):
                    yield name, node

    def test_files(self):
        self.assertIn('__init__.py', self.texts)
        for path in FILES:
            self.assertEqual(path.parent, PACKAGE)
            self.assertRegex(path.name, r'^[a-z_]+\.py$')

    def test_characters_and_sizes(self):
        for name, text in self.texts.items():
            self.assertRegex(text, r'^[ -~\n]*\Z', name)
            lines = text.split('\n')
            self.assertLessEqual(len(lines), 399, name)
            self.assertLessEqual(max(map(len, lines)), 120, name)
        for name, node in self.nodes(ast.FunctionDef):
            self.assertLessEqual(node.end_lineno - node.lineno + 1, 40, (name, node.name))

    def test_no_barred_statement_or_sign(self):
        for name, node in self.nodes(*BARRED_NODES):
            self.fail((name, node.lineno, node))
        for name, node in self.nodes(ast.Constant):
            self.assertNotIsInstance(node.value, (float, complex), (name, node.lineno))
            if isinstance(node.value, str):
                self.assertNotIn('%', node.value, (name, node.lineno))

    def test_imports(self):
        for name, node in self.nodes(ast.ImportFrom):
            self.assertEqual(node.level, 0)
            self.assertRegex(node.module, r'^firsttouch\.[a-z]+$', name)
            other = self.trees[node.module.split('.')[1] + '.py']
            defined = [part.name for part in other.body
                       if isinstance(part, (ast.ClassDef, ast.FunctionDef))]
            defined += [part.targets[0].id for part in other.body if isinstance(part, ast.Assign)]
            for alias in node.names:
                self.assertIsNone(alias.asname)
                self.assertIn(alias.name, defined, name)

    def test_no_circle(self):
        left = {'firsttouch.' + name[:-3]: imported_files(tree)
                for name, tree in self.trees.items()}
        while left:
            free = [name for name, needs in left.items() if not set(needs) & set(left)]
            self.assertTrue(free, left)
            for name in free:
                del left[name]

    def test_builtins_and_names(self):
        known = set(dir(builtins))
        for name, node in self.nodes(ast.Name):
            if node.id in known:
                self.assertIn(node.id, ALLOWED_BUILTINS, (name, node.lineno))
                self.assertIsInstance(node.ctx, ast.Load, (name, node.lineno))
            self.assertNotIn(node.id, BARRED_WORDS, (name, node.lineno))
        for name, node in self.nodes(ast.arg):
            self.assertNotIn(node.arg, known | BARRED_WORDS, (name, node.lineno))
            self.assertIsNone(node.annotation, (name, node.lineno))
        for name, node in self.nodes(ast.FunctionDef, ast.ClassDef):
            self.assertNotIn(node.name, known | BARRED_WORDS, (name, node.lineno))
            if node.name.startswith('__'):
                self.assertIn(node.name, ALLOWED_DUNDERS)
        for name, node in self.nodes(ast.Attribute):
            self.assertNotIn(node.attr, BARRED_WORDS, (name, node.lineno))

    def test_no_variable_has_the_name_of_an_import_or_a_class(self):
        for name, tree in self.trees.items():
            taken = [part.name for part in tree.body if isinstance(part, ast.ClassDef)]
            for part in tree.body:
                if isinstance(part, ast.ImportFrom):
                    taken += [alias.name for alias in part.names]
            for node in ast.walk(tree):
                if isinstance(node, ast.FunctionDef):
                    self.assertFalse(set(taken) & set(bound_names(node)), (name, node.name))

    def test_barred_words_in_strings(self):
        for name, node in self.nodes(ast.Constant):
            if isinstance(node.value, str):
                self.assertNotRegex(node.value, r'_wall|_WallAttr|\._+\Z', name)
        for name, text in self.texts.items():
            code = re.sub(r'""".*?"""|#[^\n]*', '', text, flags=re.DOTALL)
            self.assertNotRegex(code, r'\b(type|typing|enum|Generic|Protocol|ABC)\b', name)

    def test_decorators(self):
        for name, node in self.nodes(ast.FunctionDef, ast.ClassDef):
            for decorator in node.decorator_list:
                self.assertEqual(ast.unparse(decorator), 'classmethod', (name, node.name))

    def test_module_level(self):
        for name, tree in self.trees.items():
            for at, node in enumerate(tree.body):
                if at == 0:
                    self.assertIsInstance(node.value, ast.Constant, name)
                else:
                    self.assertIsInstance(node, (ast.ImportFrom, ast.FunctionDef, ast.ClassDef,
                                                 ast.Assign), name)


class TestInterface(unittest.TestCase):

    def test_methods_stand_in_the_class_itself(self):
        for cls, methods in INTERFACE.items():
            for name, parameters in methods.items():
                self.assertIn(name, vars(cls), (cls, name))
                method = vars(cls)[name]
                self.assertEqual(isinstance(method, classmethod), name in CLASS_METHODS)
                method = method.__func__ if name in CLASS_METHODS else method
                self.assertEqual(list(inspect.signature(method).parameters)[1:], parameters)

    def test_classes_stand_in_their_file(self):
        self.assertEqual([cls.__module__ for cls in INTERFACE],
                         ['firsttouch.programs', 'firsttouch.lates', 'firsttouch.worlds'])

    def test_functions(self):
        for function, names in FUNCTIONS.items():
            parameters = inspect.signature(function).parameters
            self.assertEqual(list(parameters), names, function)
            for name, parameter in parameters.items():
                if name in DEFAULTS:
                    self.assertEqual(parameter.kind, parameter.KEYWORD_ONLY)
                    self.assertEqual(parameter.default, DEFAULTS[name])
                else:
                    self.assertEqual(parameter.kind, parameter.POSITIONAL_OR_KEYWORD)
                    self.assertIs(parameter.default, parameter.empty)

    def test_functions_stand_in_their_file(self):
        for module in (parting, stories, sets, rings):
            for function in FUNCTIONS:
                if hasattr(module, function.__name__):
                    self.assertEqual(function.__module__, module.__name__)
        self.assertEqual([function.__module__.split('.')[1] for function in FUNCTIONS],
                         ['parting'] * 5 + ['stories'] * 2 + ['sets'] * 5 + ['rings'])


if __name__ == '__main__':
    unittest.main()

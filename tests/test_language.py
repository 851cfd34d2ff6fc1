"""That the package's files keep to the small part of Python: what a walk over their trees can see of it."""

import ast
import builtins
import pathlib
import re
import unittest

PACKAGE = pathlib.Path(__file__).resolve().parent.parent / 'streambalance'

NODES = '''
Module FunctionDef arguments arg ClassDef ImportFrom alias Assign AugAssign If While For Return Break Continue Pass
Raise Try ExceptHandler Expr Call Attribute Subscript Slice Name Load Store Constant List Tuple Dict keyword
BinOp Add Sub Mult FloorDiv Mod UnaryOp USub Not BoolOp And Or Compare Eq NotEq Lt LtE Gt GtE Is IsNot In NotIn
IfExp ListComp comprehension JoinedStr FormattedValue
'''.split()

OWN_NAMES = '''
len range enumerate zip min max sum abs sorted reversed int str bool list tuple dict isinstance ord repr any all divmod
Exception ValueError KeyError
'''.split()

METHODS = '''
append clear copy count extend get index insert items join keys pop remove reverse setdefault update values
'''.split()

BARRED_WORDS = r'\b(type|typing|enum|Enum|Flag|Generic|Protocol|ABC|namedtuple)\b|dataclass|overload|contextmanager'


def files():
    return sorted(path for path in PACKAGE.iterdir() if path.name != '__pycache__')


def bound_names(tree):
    names = []
    for node in ast.walk(tree):
        if isinstance(node, (ast.FunctionDef, ast.ClassDef)):
            names.append(node.name)
        elif isinstance(node, ast.arg):
            names.append(node.arg)
        elif isinstance(node, ast.alias):
            names.append(node.name)
        elif isinstance(node, ast.Name) and isinstance(node.ctx, ast.Store):
            names.append(node.id)
        elif isinstance(node, ast.ExceptHandler) and node.name:
            names.append(node.name)
    return names


class Language(unittest.TestCase):
    def each(self):
        for path in files():
            text = path.read_text(encoding='utf-8')
            with self.subTest(path.name):
                yield path, text, ast.parse(text)

    def test_files(self):
        self.assertIn('__init__.py', [path.name for path in files()])
        for path in files():
            self.assertRegex(path.name, r'^[a-z_0-9]+\.py$')

    def test_signs_and_sizes(self):
        for path, text, tree in self.each():
            self.assertRegex(text, r'^[ -~\n]*$')
            self.assertIsNone(re.search(BARRED_WORDS, text))
            self.assertLessEqual(len(text.splitlines()), 400)
            self.assertLessEqual(max(len(line) for line in text.splitlines()), 120)
            for node in ast.walk(tree):
                if isinstance(node, ast.FunctionDef):
                    self.assertLessEqual(node.end_lineno - node.lineno + 1, 40, node.name)

    def test_forms(self):
        for path, text, tree in self.each():
            for node in ast.walk(tree):
                self.assertIn(node.__class__.__name__, NODES, getattr(node, 'lineno', None))
                if isinstance(node, ast.Assign):
                    self.assertEqual(len(node.targets), 1)
                    self.assertNotIsInstance(node.targets[0], (ast.Tuple, ast.List))
                if isinstance(node, ast.Expr) and node != tree.body[0]:
                    self.assertIsInstance(node.value, ast.Call, node.lineno)
                if isinstance(node, ast.ListComp):
                    self.assertEqual(len(node.generators), 1)
                    self.assertLessEqual(len(node.generators[0].ifs), 1)
                if isinstance(node, ast.Constant):
                    self.assertIn(node.value.__class__, (int, str, bool, None.__class__))
                if isinstance(node, (ast.FunctionDef, ast.ClassDef)):
                    self.assertEqual(node.decorator_list, [])
                if isinstance(node, ast.Compare) and isinstance(node.ops[0], (ast.Is, ast.IsNot)):
                    self.assertIsInstance(node.comparators[0], ast.Constant)

    def test_imports(self):
        for path, text, tree in self.each():
            for node in ast.walk(tree):
                if isinstance(node, ast.ImportFrom):
                    self.assertIn(node, tree.body)
                    self.assertEqual(node.level, 0)
                    self.assertRegex(node.module, r'^streambalance\.[a-z]+$')
                    source = ast.parse((PACKAGE / (node.module.split('.')[1] + '.py')).read_text())
                    tops = [name for part in source.body if not isinstance(part, ast.ImportFrom)
                            for name in bound_names(part)]
                    self.assertIn(node.names[0].name, tops)

    def test_names(self):
        for path, text, tree in self.each():
            bound = bound_names(tree)
            for name in bound:
                self.assertTrue(name == '__init__' or re.fullmatch('[A-Za-z][A-Za-z0-9_]*', name), name)
                self.assertFalse(hasattr(builtins, name) and name != '__init__', name)
            for node in ast.walk(tree):
                if isinstance(node, ast.Name):
                    self.assertIn(node.id, bound + OWN_NAMES)

    def test_each_name_once_at_the_top(self):
        for path, text, tree in self.each():
            tops = []
            for part in tree.body:
                if isinstance(part, ast.ImportFrom):
                    tops += [name.name for name in part.names]
                elif isinstance(part, ast.Assign):
                    tops.append(part.targets[0].id)
                elif isinstance(part, (ast.FunctionDef, ast.ClassDef)):
                    tops.append(part.name)
            self.assertEqual(len(tops), len(set(tops)))
            drawn = [name.name for part in tree.body if isinstance(part, ast.ImportFrom) for name in part.names]
            classes = [part.name for part in tree.body if isinstance(part, ast.ClassDef)]
            for part in tree.body:
                if isinstance(part, (ast.FunctionDef, ast.ClassDef)):
                    within = bound_names(part)
                    if isinstance(part, ast.ClassDef):
                        within.remove(part.name)
                    self.assertEqual([name for name in within if name in drawn + classes], [], part.name)

    def test_no_two_files_draw_from_one_another(self):
        drawn = {}
        for path, text, tree in self.each():
            drawn[path.stem] = {part.module.split('.')[1] for part in tree.body if isinstance(part, ast.ImportFrom)}
        while drawn:
            free = [name for name in drawn if not drawn[name] & set(drawn)]
            self.assertNotEqual(free, [], drawn)
            for name in free:
                del drawn[name]

    def test_plain_signs_and_no_annotations(self):
        for path, text, tree in self.each():
            for node in ast.walk(tree):
                if isinstance(node, ast.Constant) and isinstance(node.value, str):
                    self.assertNotIn('%', node.value)
                if isinstance(node, ast.FunctionDef):
                    self.assertIsNone(node.returns)
                    arguments = node.args
                    self.assertEqual([arguments.vararg, arguments.kwarg, arguments.kwonlyargs], [None, None, []])
                    self.assertEqual([one.arg for one in arguments.args if one.annotation], [])

    def test_errors_are_the_own_ones(self):
        for path, text, tree in self.each():
            for node in ast.walk(tree):
                if isinstance(node, ast.ExceptHandler):
                    self.assertEqual(node.type.id, 'Refusal')
                if isinstance(node, ast.Raise):
                    self.assertIsInstance(node.exc, ast.Call)
                    self.assertFalse(hasattr(builtins, node.exc.func.id))

    def test_methods_and_values(self):
        methods, values, used = [], [], []
        for path, text, tree in self.each():
            for node in ast.walk(tree):
                if isinstance(node, ast.ClassDef):
                    methods += [part.name for part in node.body]
                if isinstance(node, ast.Attribute):
                    (values if isinstance(node.ctx, ast.Store) else used).append(node.attr)
        self.assertEqual([name for name in values if name in methods], [])
        for name in used:
            self.assertIn(name, methods + values + METHODS)
        for name in values + [name for name in methods if name != '__init__']:
            for sort in (int, str, list, tuple, dict, set, bytes):
                self.assertFalse(hasattr(sort, name), name)


if __name__ == '__main__':
    unittest.main()

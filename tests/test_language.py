"""The package keeps to the small part of Python that its rules allow, as far as can be seen from its text."""

import ast
import builtins
import os
import re
import unittest

PACKAGE = os.path.join(os.path.dirname(os.path.dirname(os.path.abspath(__file__))), "jostle")

NODES = """Module ImportFrom alias FunctionDef ClassDef arguments arg Lambda Assign AugAssign If While For Return Break
Continue Pass Raise Try ExceptHandler Expr Call keyword Constant List Tuple Dict Set Name Attribute Subscript Slice
BinOp UnaryOp BoolOp Compare IfExp ListComp comprehension JoinedStr FormattedValue Load Store
Add Sub Mult FloorDiv Mod Pow BitAnd BitOr BitXor LShift RShift Invert USub UAdd Not And Or
Eq NotEq Lt LtE Gt GtE Is IsNot In NotIn""".split()

BUILTINS = """len range enumerate zip min max sum abs sorted reversed int str bool list tuple dict set frozenset isinstance
ord repr any all divmod Exception ValueError TypeError KeyError IndexError LookupError ZeroDivisionError
ArithmeticError OverflowError RuntimeError NotImplementedError StopIteration""".split()

DUNDERS = ["__init__", "__eq__", "__repr__", "__str__", "__len__"]

WORDS = re.compile(
    r"\b(type|typing|typing_extensions|enum|Enum|IntEnum|StrEnum|Flag|IntFlag|Generic|Protocol|ABC|ABCMeta|namedtuple"
    r"|NamedTuple|TypedDict|TYPE_CHECKING|abstractmethod)\b|dataclass|overload|contextmanager"
)


def sources():
    found = []
    for name in sorted(os.listdir(PACKAGE)):
        if name != "__pycache__":
            with open(os.path.join(PACKAGE, name), "rb") as source:
                found.append((name, source.read()))
    return found


def names_used(node):
    if isinstance(node, ast.arg):
        return [node.arg]
    if isinstance(node, (ast.FunctionDef, ast.ClassDef)):
        return [node.name]
    if isinstance(node, ast.Name):
        return [node.id]
    if isinstance(node, ast.Attribute):
        return [node.attr]
    return []


def texts():
    return [(name, source.decode("ascii")) for name, source in sources()]


def nodes():
    """Each node of each file, and where it stands."""
    found = []
    for name, text in texts():
        for node in ast.walk(ast.parse(text)):
            found.append((f"{name}, line {getattr(node, 'lineno', 0)}", node))
    return found


class Language(unittest.TestCase):
    def test_files(self):
        names = [name for name, source in sources()]
        self.assertIn("__init__.py", names)
        for name in names:
            self.assertRegex(name, r"^(__init__|[a-z][a-z0-9_]*)\.py$")

    def test_signs_and_sizes(self):
        for name, text in texts():
            self.assertRegex(text, r"\A[ -~\n]*\Z", name)
            self.assertLessEqual(len(text.splitlines()), 400, name)
            self.assertLessEqual(max(len(line) for line in text.splitlines()), 120, name)

    def test_words_that_stand_nowhere(self):
        for name, text in texts():
            self.assertIsNone(WORDS.search(text), name)

    def test_the_top_of_a_file(self):
        for name, text in texts():
            self.assertIsNotNone(ast.get_docstring(ast.parse(text)), name)
            for node in ast.parse(text).body[1:]:
                self.assertIsInstance(node, (ast.ImportFrom, ast.FunctionDef, ast.ClassDef, ast.Assign), name)

    def test_statements_and_expressions(self):
        for where, node in nodes():
            self.assertIn(node.__class__.__name__, NODES, where)
            if isinstance(node, ast.Assign):
                self.assertEqual(len(node.targets), 1, where)
                self.assertNotIsInstance(node.targets[0], (ast.Tuple, ast.List), where)
            if isinstance(node, (ast.For, ast.While)):
                self.assertEqual(node.orelse, [], where)
            if isinstance(node, ast.Constant):
                self.assertIsInstance(node.value, (int, str, type(None)), where)

    def test_imports(self):
        known = ["jostle." + name[:-3] for name, source in sources()]
        for where, node in nodes():
            if isinstance(node, ast.ImportFrom):
                self.assertEqual(node.level, 0, where)
                self.assertIn(node.module, known, where)
                self.assertNotIn("*", [drawn.name for drawn in node.names], where)

    def test_functions(self):
        for where, node in nodes():
            if isinstance(node, ast.FunctionDef):
                self.assertLessEqual(node.end_lineno - node.lineno + 1, 40, where)
                self.assertEqual(node.decorator_list, [], where)
                self.assertEqual((node.args.vararg, node.args.kwarg), (None, None), where)
                self.assertEqual((node.args.kwonlyargs, node.args.posonlyargs), ([], []), where)

    def test_classes(self):
        for where, node in nodes():
            if isinstance(node, ast.ClassDef):
                self.assertEqual((node.decorator_list, node.keywords), ([], []), where)
                self.assertLessEqual(len(node.bases), 1, where)
                for part in node.body:
                    self.assertIsInstance(part, (ast.FunctionDef, ast.Pass), where)

    def test_names(self):
        for where, node in nodes():
            for name in names_used(node):
                if name not in DUNDERS:
                    self.assertRegex(name, r"^[A-Za-z][A-Za-z0-9_]*$", where)
            if isinstance(node, ast.Name) and hasattr(builtins, node.id):
                self.assertIn(node.id, BUILTINS, where)
                self.assertIsInstance(node.ctx, ast.Load, where)
            if isinstance(node, ast.arg):
                self.assertFalse(hasattr(builtins, node.arg), where)

    def test_handlers(self):
        for where, node in nodes():
            if isinstance(node, ast.Try):
                self.assertEqual(node.finalbody, [], where)
            if isinstance(node, ast.ExceptHandler):
                self.assertIsInstance(node.type, (ast.Name, ast.Tuple), where)
                caught = [name.id for name in ast.walk(node.type) if isinstance(name, ast.Name)]
                self.assertEqual(set(caught) & {"Exception", "TypeError"}, set(), where)


if __name__ == "__main__":
    unittest.main()

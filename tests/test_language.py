"""The package keeps to the small part of Python that its rules allow, as far as can be seen from its text."""

import ast
import builtins
import os
import re
import unittest

PACKAGE = os.path.join(os.path.dirname(os.path.dirname(os.path.abspath(__file__))), "jostle")

NODES = """Module ImportFrom alias FunctionDef ClassDef arguments arg Lambda Assign AugAssign If While For Return Break
Continue Pass Raise Try ExceptHandler Expr Call keyword Constant List Tuple Dict Set Name Attribute Subscript Slice
BinOp UnaryOp BoolOp Compare IfExp ListComp comprehension JoinedStr FormattedValue Load Store
Add Sub Mult FloorDiv Mod Pow BitAnd BitOr BitXor LShift RShift Invert USub UAdd Not And Or
Eq NotEq Lt LtE Gt GtE Is IsNot In NotIn""".split()

BUILTINS = """len range enumerate zip min max sum abs sorted reversed int str bool list tuple dict set frozenset isinstance
ord repr any all divmod Exception ValueError TypeError KeyError IndexError LookupError ZeroDivisionError
ArithmeticError OverflowError RuntimeError NotImplementedError StopIteration""".split()

DUNDERS = ["__init__", "__eq__", "__repr__", "__str__", "__len__"]

METHODS = """append clear copy count endswith extend find get index insert isalnum isalpha isdigit islower isspace isupper
items join keys ljust lower lstrip partition pop remove replace reverse rfind rjust rpartition rsplit rstrip setdefault
split splitlines startswith strip update upper values zfill bit_length""".split()

KEYWORDS = {
    "sorted": ["key", "reverse"], "min": ["key", "default"], "max": ["key", "default"],
    "sum": ["start"], "enumerate": ["start"], "zip": ["strict"],
}

WALKED = ["zip", "enumerate", "reversed", "range", "items", "keys", "values"]

WALKERS = ["list", "tuple", "dict", "sorted", "sum", "any", "all", "enumerate", "zip"]

UNUSED = """register mro elements open input version_info with_traceback add_note attrgetter breakpoint builtins compile
copyright credits delattr dir eval exec exit gc getattr globals hasattr help id importlib license locals methodcaller os
quit setattr super vars sys format format_map args encode sort""".split()

WORDS = re.compile(
    r"\b(type|typing|typing_extensions|enum|Enum|IntEnum|StrEnum|Flag|IntFlag|Generic|Protocol|ABC|ABCMeta|namedtuple"
    r"|NamedTuple|TypedDict|TYPE_CHECKING|abstractmethod)\b|dataclass|overload|contextmanager"
)


def sources():
    found = []
    for name in sorted(os.listdir(PACKAGE)):
        if name != "__pycache__":
            with open(os.path.join(PACKAGE, name), "rb") as source:
                found.append((name, source.read()))
    return found


def names_used(node):
    if isinstance(node, ast.arg):
        return [node.arg]
    if isinstance(node, (ast.FunctionDef, ast.ClassDef)):
        return [node.name]
    if isinstance(node, ast.Name):
        return [node.id]
    if isinstance(node, ast.Attribute):
        return [node.attr]
    return []


def texts():
    return [(name, source.decode("ascii")) for name, source in sources()]


def nodes():
    """Each node of each file, and where it stands."""
    found = []
    for name, text in texts():
        for node in ast.walk(ast.parse(text)):
            found.append((f"{name}, line {getattr(node, 'lineno', 0)}", node))
    return found


def trees():
    return [(name[:-3], ast.parse(text)) for name, text in texts()]


def parents():
    """Each node of each file with the one it stands in, and where it stands."""
    found = []
    for name, tree in trees():
        for parent in ast.walk(tree):
            for node in ast.iter_child_nodes(parent):
                found.append((f"{name}, line {getattr(node, 'lineno', 0)}", node, parent))
    return found


def called(node):
    """What a call calls: a name or a method's name."""
    if not isinstance(node, ast.Call):
        return None
    return node.func.id if isinstance(node.func, ast.Name) else node.func.attr


def drawn_by(tree):
    """Each name that a file draws, with the file it comes from."""
    found = {}
    for node in tree.body:
        if isinstance(node, ast.ImportFrom):
            for drawn in node.names:
                found[drawn.name] = node.module.split(".")[-1]
    return found


def defined_in(tree):
    return [node.name for node in tree.body if isinstance(node, (ast.FunctionDef, ast.ClassDef))]


def own_methods():
    return {
        part.name for name, tree in trees() for node in tree.body if isinstance(node, ast.ClassDef)
        for part in node.body if isinstance(part, ast.FunctionDef)
    }


class Language(unittest.TestCase):
    def test_files(self):
        names = [name for name, source in sources()]
        self.assertIn("__init__.py", names)
        for name in names:
            self.assertRegex(name, r"^(__init__|[a-z][a-z0-9_]*)\.py$")

    def test_signs_and_sizes(self):
        for name, text in texts():
            self.assertRegex(text, r"\A[ -~\n]*\Z", name)
            self.assertLessEqual(len(text.splitlines()), 400, name)
            self.assertLessEqual(max(len(line) for line in text.splitlines()), 120, name)

    def test_words_that_stand_nowhere(self):
        for name, text in texts():
            self.assertIsNone(WORDS.search(text), name)

    def test_the_top_of_a_file(self):
        for name, text in texts():
            self.assertIsNotNone(ast.get_docstring(ast.parse(text)), name)
            for node in ast.parse(text).body[1:]:
                self.assertIsInstance(node, (ast.ImportFrom, ast.FunctionDef, ast.ClassDef, ast.Assign), name)

    def test_statements_and_expressions(self):
        for where, node in nodes():
            self.assertIn(node.__class__.__name__, NODES, where)
            if isinstance(node, ast.Assign):
                self.assertEqual(len(node.targets), 1, where)
                self.assertNotIsInstance(node.targets[0], (ast.Tuple, ast.List), where)
            if isinstance(node, (ast.For, ast.While)):
                self.assertEqual(node.orelse, [], where)
            if isinstance(node, ast.Constant):
                self.assertIsInstance(node.value, (int, str, type(None)), where)

    def test_imports(self):
        known = ["jostle." + name[:-3] for name, source in sources()]
        for where, node in nodes():
            if isinstance(node, ast.ImportFrom):
                self.assertEqual(node.level, 0, where)
                self.assertIn(node.module, known, where)
                self.assertNotIn("*", [drawn.name for drawn in node.names], where)

    def test_functions(self):
        for where, node in nodes():
            if isinstance(node, ast.FunctionDef):
                self.assertLessEqual(node.end_lineno - node.lineno + 1, 40, where)
                self.assertEqual(node.decorator_list, [], where)
                self.assertEqual((node.args.vararg, node.args.kwarg), (None, None), where)
                self.assertEqual((node.args.kwonlyargs, node.args.posonlyargs), ([], []), where)

    def test_classes(self):
        for where, node in nodes():
            if isinstance(node, ast.ClassDef):
                self.assertEqual((node.decorator_list, node.keywords), ([], []), where)
                self.assertLessEqual(len(node.bases), 1, where)
                for part in node.body:
                    self.assertIsInstance(part, (ast.FunctionDef, ast.Pass), where)

    def test_names(self):
        for where, node in nodes():
            for name in names_used(node):
                if name not in DUNDERS:
                    self.assertRegex(name, r"^[A-Za-z][A-Za-z0-9_]*$", where)
            if isinstance(node, ast.Name) and hasattr(builtins, node.id):
                self.assertIn(node.id, BUILTINS, where)
                self.assertIsInstance(node.ctx, ast.Load, where)
            if isinstance(node, ast.arg):
                self.assertFalse(hasattr(builtins, node.arg), where)

    def test_handlers(self):
        for where, node in nodes():
            if isinstance(node, ast.Try):
                self.assertEqual(node.finalbody, [], where)
            if isinstance(node, ast.ExceptHandler):
                self.assertIsInstance(node.type, (ast.Name, ast.Tuple), where)
                caught = [name.id for name in ast.walk(node.type) if isinstance(name, ast.Name)]
                self.assertEqual(set(caught) & {"Exception", "TypeError"}, set(), where)

    def test_names_that_are_not_used(self):
        for where, node in nodes():
            for name in names_used(node):
                self.assertNotIn(name, UNUSED, where)

    def test_each_name_of_a_file_once(self):
        for name, tree in trees():
            bound = defined_in(tree) + list(drawn_by(tree))
            self.assertEqual(len(bound), len(set(bound)), name)
            for node in ast.walk(tree):
                if isinstance(node, ast.arg):
                    self.assertNotIn(node.arg, bound, name)
                if isinstance(node, ast.Name) and isinstance(node.ctx, ast.Store):
                    self.assertNotIn(node.id, bound, name)

    def test_names_are_drawn_from_the_file_that_defines_them(self):
        defined = {name: defined_in(tree) for name, tree in trees()}
        for name, tree in trees():
            for drawn, source in drawn_by(tree).items():
                self.assertIn(drawn, defined[source], name)

    def test_no_two_files_draw_from_one_another(self):
        drawn = {name: set(drawn_by(tree).values()) for name, tree in trees()}
        while drawn:
            free = [name for name in drawn if not drawn[name] & set(drawn)]
            self.assertNotEqual(free, [], sorted(drawn))
            for name in free:
                drawn.pop(name)

    def test_nothing_drawn_is_unused(self):
        for name, tree in trees():
            used = {node.id for node in ast.walk(tree) if isinstance(node, ast.Name)}
            self.assertEqual(set(drawn_by(tree)) - used, set(), name)

    def test_methods_and_values_keep_apart(self):
        for where, node in nodes():
            if isinstance(node, ast.Attribute) and isinstance(node.ctx, ast.Store):
                self.assertNotIn(node.attr, own_methods(), where)
                for value in ("", 0, [], {}, set(), b""):
                    self.assertFalse(hasattr(value, node.attr), where)

    def test_methods_are_called_where_they_stand(self):
        for where, node, parent in parents():
            if isinstance(node, ast.Attribute) and isinstance(parent, ast.Call) and parent.func is node:
                self.assertIn(node.attr, METHODS + sorted(own_methods()), where)
            elif isinstance(node, ast.Attribute):
                self.assertNotIn(node.attr, METHODS + sorted(own_methods()), where)

    def test_keywords(self):
        for where, node in nodes():
            if isinstance(node, ast.Call):
                for keyword in node.keywords:
                    self.assertIn(keyword.arg, KEYWORDS.get(called(node), []), where)

    def test_is_stands_beside_none_true_and_false_alone(self):
        for where, node in nodes():
            if isinstance(node, ast.Compare) and any(isinstance(sign, (ast.Is, ast.IsNot)) for sign in node.ops):
                self.assertIsInstance(node.comparators[0], ast.Constant, where)
                self.assertIn(repr(node.comparators[0].value), ("None", "True", "False"), where)

    def test_walked_on_the_spot(self):
        for where, node, parent in parents():
            if called(node) in WALKED:
                if isinstance(parent, (ast.For, ast.comprehension)):
                    self.assertIs(parent.iter, node, where)
                elif called(parent) in ("min", "max"):
                    self.assertEqual(len(parent.args), 1, where)
                else:
                    self.assertIn(called(parent), WALKERS, where)
                    self.assertIs(parent.args[0], node, where)

    def test_sets_are_neither_kept_nor_walked(self):
        for where, node, parent in parents():
            self.assertNotIsInstance(node, ast.Set, where)
            if called(node) in ("set", "frozenset"):
                allowed = isinstance(parent, (ast.Compare, ast.BinOp)) or called(parent) in ("sorted", "len")
                self.assertTrue(allowed, where)


if __name__ == "__main__":
    unittest.main()

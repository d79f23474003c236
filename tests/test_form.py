"""The form of the package's files: what can be seen of LANGUAGE.md's rules without much ado."""

import ast
import builtins
import pathlib
import re
import unittest

PACKAGE = pathlib.Path(__file__).resolve().parent.parent / "cutroom"

# L6, L7: the kinds of statements and expressions that the program is made of.
ALLOWED = (
    ast.Module, ast.ImportFrom, ast.alias, ast.FunctionDef, ast.arguments, ast.arg, ast.ClassDef, ast.Lambda,
    ast.Assign, ast.AugAssign, ast.If, ast.While, ast.For, ast.Return, ast.Break, ast.Continue, ast.Pass, ast.Raise,
    ast.Try, ast.ExceptHandler, ast.Expr, ast.Constant, ast.List, ast.Tuple, ast.Dict, ast.Set, ast.BinOp, ast.UnaryOp,
    ast.BoolOp, ast.Compare, ast.IfExp, ast.Call, ast.keyword, ast.Attribute, ast.Subscript, ast.Slice, ast.Name,
    ast.ListComp, ast.comprehension, ast.JoinedStr, ast.FormattedValue, ast.expr_context, ast.operator, ast.unaryop,
    ast.boolop, ast.cmpop,
)
FORBIDDEN = (ast.Div, ast.MatMult)

# L17: words that stand nowhere in a file.
WORDS = re.compile(
    r"\b(type|typing|typing_extensions|enum|Enum|IntEnum|StrEnum|Flag|IntFlag|Generic|Protocol|ABC|ABCMeta|namedtuple"
    r"|NamedTuple|TypedDict|TYPE_CHECKING|abstractmethod)\b|dataclass|overload|contextmanager"
)

# L8: Python's own names that may be read.
OWN_NAMES = (
    "len range enumerate zip min max sum abs sorted reversed int str bool list tuple dict set frozenset isinstance ord "
    "repr any all divmod Exception ValueError TypeError KeyError IndexError LookupError ZeroDivisionError "
    "ArithmeticError OverflowError RuntimeError NotImplementedError AttributeError StopIteration"
).split()

# L25: the methods of Python's own values.
METHODS = (
    "append clear copy count endswith extend find get index insert isalnum isalpha isdigit islower isspace isupper "
    "items join keys ljust lower lstrip partition pop remove replace reverse rfind rjust rpartition rsplit rstrip "
    "setdefault split splitlines startswith strip update upper values zfill bit_length"
).split()

# L23: those of them that change what they are called on.
CHANGES = "append clear extend insert pop remove reverse setdefault update".split()

# L26: values of an object that may bear a name of Python's own values, though these have it, too.
FREE_VALUES = "count index title find get join lower upper split strip copy add".split()
OWN_VALUES = set().union(*[dir(kind) for kind in (str, int, list, tuple, dict, set, bytes)]) - set(FREE_VALUES)


def files():
    return [(path, path.read_text(encoding="utf-8")) for path in sorted(PACKAGE.glob("*.py"))]


def bound_names(tree):
    names = set()
    for node in ast.walk(tree):
        if isinstance(node, (ast.FunctionDef, ast.ClassDef)):
            names.add(node.name)
        elif isinstance(node, ast.arg):
            names.add(node.arg)
        elif isinstance(node, ast.Name) and isinstance(node.ctx, ast.Store):
            names.add(node.id)
        elif isinstance(node, ast.alias):
            names.add(node.name)
        elif isinstance(node, ast.ExceptHandler) and node.name:
            names.add(node.name)
    return names


class Form(unittest.TestCase):
    def test_folder(self):
        names = [path.name for path in PACKAGE.iterdir() if path.name != "__pycache__"]
        self.assertIn("__init__.py", names)
        for name in names:
            self.assertRegex(name, r"\A(__init__|[a-z][a-z0-9_]*)\.py\Z")

    def test_lines_and_signs(self):
        for path, text in files():
            with self.subTest(path.name):
                self.assertRegex(text, r"\A[ -~\n]*\Z")
                self.assertLessEqual(len(text.splitlines()), 400)
                self.assertLessEqual(max([len(line) for line in text.splitlines()], default=0), 120)
                self.assertIsNone(WORDS.search(text))

    def test_functions_are_short(self):
        for path, text in files():
            for node in ast.walk(ast.parse(text)):
                if isinstance(node, ast.FunctionDef):
                    with self.subTest(path.name, function=node.name):
                        self.assertLessEqual(node.end_lineno - node.lineno + 1, 40)
                        self.assertEqual(node.decorator_list, [])
                        self.assertIsNone(node.args.vararg or node.args.kwarg)
                        self.assertEqual(node.args.kwonlyargs + node.args.posonlyargs, [])

    def test_kinds_of_statements_and_expressions(self):
        for path, text in files():
            for node in ast.walk(ast.parse(text)):
                with self.subTest(path.name, line=getattr(node, "lineno", 0)):
                    self.assertIsInstance(node, ALLOWED)
                    self.assertNotIsInstance(node, FORBIDDEN)
                    self.assertFalse(isinstance(node, ast.Constant) and isinstance(node.value, (float, complex, bytes)))
                    self.assertFalse(isinstance(node, ast.Assign) and len(node.targets) > 1)
                    self.assertFalse(isinstance(node, (ast.For, ast.While)) and node.orelse)

    def test_imports(self):
        for path, text in files():
            for node in ast.walk(ast.parse(text)):
                if isinstance(node, ast.ImportFrom):
                    with self.subTest(path.name, line=node.lineno):
                        self.assertEqual(node.level, 0)
                        source = PACKAGE.parent / (node.module.replace(".", "/") + ".py")
                        defined = bound_names(ast.parse(source.read_text(encoding="utf-8")))
                        self.assertTrue(source.parent == PACKAGE and path != source)
                        for name in node.names:
                            self.assertIsNone(name.asname)
                            self.assertIn(name.name, defined)

    def test_names(self):
        for path, text in files():
            tree = ast.parse(text)
            bound = bound_names(tree)
            for name in bound - {"__init__", "__eq__", "__repr__", "__str__", "__len__"}:
                with self.subTest(path.name, name=name):
                    self.assertRegex(name, r"\A[A-Za-z][A-Za-z0-9_]*\Z")
                    self.assertNotIn(name, OWN_NAMES)
            for node in ast.walk(tree):
                if isinstance(node, ast.Name) and isinstance(node.ctx, ast.Load):
                    with self.subTest(path.name, line=node.lineno):
                        self.assertIn(node.id, sorted(bound) + OWN_NAMES)

    def test_no_local_hides_an_import_or_a_name_of_pythons_own(self):
        for path, text in files():
            tree = ast.parse(text)
            taken = set(dir(builtins)) | {part.name for part in tree.body if isinstance(part, ast.ClassDef)}
            for part in tree.body:
                if isinstance(part, ast.ImportFrom):
                    taken.update(name.name for name in part.names)
            for part in ast.walk(tree):
                if isinstance(part, ast.FunctionDef):
                    names = {node.arg for node in ast.walk(part) if isinstance(node, ast.arg)}
                    named = [node for node in ast.walk(part) if isinstance(node, ast.Name)]
                    names.update(node.id for node in named if isinstance(node.ctx, ast.Store))
                    with self.subTest(path.name, function=part.name):
                        self.assertEqual(names & taken, set())

    def test_no_name_is_a_method_and_a_value(self):
        methods = set()
        values = set()
        for path, text in files():
            for node in ast.walk(ast.parse(text)):
                if isinstance(node, ast.ClassDef):
                    methods.update(part.name for part in node.body if isinstance(part, ast.FunctionDef))
                elif isinstance(node, ast.Attribute) and isinstance(node.ctx, ast.Store):
                    values.add(node.attr)
        self.assertEqual(methods & values, set())
        self.assertEqual(values & OWN_VALUES, set())

    def test_no_loop_changes_what_it_walks(self):
        for path, text in files():
            for loop in ast.walk(ast.parse(text)):
                if isinstance(loop, ast.For):
                    walked = {ast.unparse(node) for node in ast.walk(loop.iter)}
                    for node in [node for line in loop.body for node in ast.walk(line)]:
                        with self.subTest(path.name, line=getattr(node, "lineno", 0)):
                            if isinstance(node, ast.Call) and isinstance(node.func, ast.Attribute):
                                self.assertFalse(node.func.attr in CHANGES and ast.unparse(node.func.value) in walked)
                            if isinstance(node, ast.Subscript) and isinstance(node.ctx, ast.Store):
                                self.assertNotIn(ast.unparse(node.value), walked)

    def test_methods(self):
        own = set()
        for path, text in files():
            for node in ast.walk(ast.parse(text)):
                if isinstance(node, ast.ClassDef):
                    own.update(part.name for part in node.body if isinstance(part, ast.FunctionDef))
        for path, text in files():
            for node in ast.walk(ast.parse(text)):
                if isinstance(node, ast.Call) and isinstance(node.func, ast.Attribute):
                    with self.subTest(path.name, line=node.lineno):
                        self.assertIn(node.func.attr, sorted(own) + METHODS)

"""The form of the package's files, as far as it can be seen of them one by one: ../shared/LANGUAGE.md."""
import ast
import builtins
import os
import re
import unittest
from types import NoneType

FOLDER = os.path.join(os.path.dirname(os.path.dirname(os.path.abspath(__file__))), "retrace")
OWN_NAMES = """len range enumerate zip min max sum abs sorted reversed int str bool list tuple dict set frozenset
isinstance ord repr any all divmod Exception ValueError TypeError KeyError IndexError LookupError ZeroDivisionError
ArithmeticError OverflowError RuntimeError NotImplementedError AttributeError StopIteration""".split()
METHODS = ("__init__", "__eq__", "__repr__", "__str__", "__len__")
STATEMENTS = (
    ast.Assign, ast.AugAssign, ast.If, ast.While, ast.For, ast.Return, ast.Break, ast.Continue, ast.Pass, ast.Raise,
    ast.Try, ast.Expr, ast.FunctionDef, ast.ClassDef, ast.ImportFrom,
)
NO_EXPRESSIONS = (
    ast.SetComp, ast.DictComp, ast.GeneratorExp, ast.NamedExpr, ast.Starred, ast.Await, ast.Yield, ast.YieldFrom,
    ast.Div, ast.MatMult,
)
OWN_METHODS = """append clear copy count endswith extend find get index insert isalnum isalpha isdigit islower isspace
isupper items join keys ljust lower lstrip partition pop remove replace reverse rfind rjust rpartition rsplit rstrip
setdefault split splitlines startswith strip update upper values zfill bit_length""".split()
NO_WORDS = re.compile(
    r"\b(type|typing|typing_extensions|enum|Enum|IntEnum|StrEnum|Flag|IntFlag|Generic|Protocol|ABC|ABCMeta|namedtuple"
    r"|NamedTuple|TypedDict|TYPE_CHECKING|abstractmethod)\b|dataclass|overload|contextmanager")


def files():
    """The text of each file of the package, by its name."""
    texts = {}
    for name in sorted(os.listdir(FOLDER)):
        if name != "__pycache__":
            with open(os.path.join(FOLDER, name), encoding="utf-8", newline="") as file:
                texts[name] = file.read()
    return texts


def nodes():
    return [(name, node) for name, text in files().items() for node in ast.walk(ast.parse(text))]


def drawn_from(text):
    """The files that one draws from."""
    return [node.module.split(".")[1] + ".py" for node in ast.parse(text).body if isinstance(node, ast.ImportFrom)]


def unplain_defaults(text):
    """The lines of the defaults, of whatever functions, that are no written whole number, text, truth or None."""
    lines = []
    for node in ast.walk(ast.parse(text)):
        if isinstance(node, ast.arguments):
            # A keyword-only parameter without a default stands as None among kw_defaults.
            for default in node.defaults + [found for found in node.kw_defaults if found is not None]:
                if not is_plain(default):
                    lines.append(default.lineno)
    return lines


def is_plain(node):
    return isinstance(node, ast.Constant) and isinstance(node.value, (int, str, bool, NoneType))


def unplain_parts(node, defined):
    """The parts of what a name of a file's top is given that are neither plain nor functions defined above."""
    if isinstance(node, (ast.List, ast.Tuple)):
        return [found for part in node.elts for found in unplain_parts(part, defined)]
    if isinstance(node, ast.Dict):
        return [found for part in node.keys + node.values for found in unplain_parts(part, defined)]
    if isinstance(node, ast.UnaryOp) and isinstance(node.op, ast.USub):
        return unplain_parts(node.operand, [])
    if is_plain(node) or isinstance(node, ast.Name) and node.id in defined:
        return []
    return [ast.dump(node)]


class Language(unittest.TestCase):
    def test_files(self):
        self.assertIn("__init__.py", files())
        for name in files():
            self.assertRegex(name, r"\A[a-z0-9_]+\.py\Z")

    def test_signs_words_and_sizes(self):
        for name, text in files().items():
            with self.subTest(name=name):
                self.assertRegex(text, r"\A[ -~\n]*\Z")
                self.assertIsNone(NO_WORDS.search(text))
                self.assertLessEqual(len(text.splitlines()), 400)
                self.assertLessEqual(max([len(line) for line in text.splitlines()]), 120)

    def test_functions(self):
        for name, node in nodes():
            if isinstance(node, ast.FunctionDef):
                with self.subTest(name=name, function=node.name):
                    self.assertLessEqual(node.end_lineno - node.lineno + 1, 40)
                    self.assertEqual(node.decorator_list, [])
                    found = node.args
                    self.assertFalse(found.vararg or found.kwarg or found.kwonlyargs or found.posonlyargs)
                    self.assertTrue(node.name in METHODS or not node.name.startswith("_"))
                    for parameter in found.args:
                        self.assertFalse(parameter.arg.startswith("_") or hasattr(builtins, parameter.arg))

    def test_every_default_is_a_plain_value(self):
        for name, text in files().items():
            self.assertEqual(unplain_defaults(text), [], name)

    def test_which_defaults_are_plain_values(self):
        for plain in ("0", "2000", "''", "'on'", "True", "False", "None"):
            self.assertEqual(unplain_defaults(f"def f(a, b={plain}):\n    pass\n"), [], plain)
        for other in ("MOST", "a.b", "1 + 1", "f()", "()", "(1,)", "[]", "{}", "1.0", "b''", "...", "f'a'", "lambda: 0"):
            for text in ("def f(a, b=%s):\n    pass\n", "x = lambda b=%s: b\n", "def f(*, a, b=%s):\n    pass\n",
                         "class C:\n def m(self, a=1, b=%s):\n  pass\n", "def f():\n def g(b=%s):\n  pass\n"):
                self.assertEqual(len(unplain_defaults(text % other)), 1, text % other)

    def test_imports(self):
        for name, text in files().items():
            for node in ast.walk(ast.parse(text)):
                with self.subTest(name=name):
                    self.assertNotIsInstance(node, ast.Import)
                    if isinstance(node, ast.ImportFrom):
                        self.assertEqual(node.level, 0)
                        self.assertRegex(node.module, r"\Aretrace\.[a-z_0-9]+\Z")
                        self.assertIn(node.module.split(".")[1] + ".py", files())
                        self.assertNotIn("*", [alias.name for alias in node.names])

    def test_no_two_files_draw_from_one_another(self):
        texts = files()
        for name in texts:
            reached = drawn_from(texts[name])
            for further in reached:
                reached.extend([other for other in drawn_from(texts[further]) if other not in reached])
            self.assertNotIn(name, reached)

    def test_statements_and_expressions(self):
        for name, node in nodes():
            with self.subTest(name=name, line=getattr(node, "lineno", None)):
                self.assertFalse(isinstance(node, ast.stmt) and not isinstance(node, STATEMENTS))
                self.assertNotIsInstance(node, NO_EXPRESSIONS)
                if isinstance(node, (ast.For, ast.While)):
                    self.assertEqual(node.orelse, [])
                if isinstance(node, ast.Try):
                    self.assertEqual(node.finalbody, [])
                if isinstance(node, ast.Assign):
                    self.assertEqual(len(node.targets), 1)
                if isinstance(node, ast.Constant):
                    self.assertNotIsInstance(node.value, (float, bytes, complex))
                    self.assertFalse(isinstance(node.value, str) and "%" in node.value)

    def test_comprehensions_texts_and_is(self):
        for name, node in nodes():
            with self.subTest(name=name, line=getattr(node, "lineno", None)):
                if isinstance(node, ast.ListComp):
                    self.assertEqual(len(node.generators), 1)
                    self.assertLessEqual(len(node.generators[0].ifs), 1)
                if isinstance(node, ast.FormattedValue):
                    self.assertIsInstance(node.value, ast.Name)
                    self.assertIsNone(node.format_spec)
                if isinstance(node, ast.Compare) and isinstance(node.ops[0], (ast.Is, ast.IsNot)):
                    self.assertIsInstance(node.comparators[0], ast.Constant)
                    self.assertIn(node.comparators[0].value, (None, True, False))

    def test_methods_and_values(self):
        methods, stored, called = set(), set(), set()
        for name, node in nodes():
            if isinstance(node, ast.ClassDef):
                methods.update([part.name for part in node.body if isinstance(part, ast.FunctionDef)])
            if isinstance(node, ast.Attribute) and isinstance(node.ctx, ast.Store):
                stored.add(node.attr)
            if isinstance(node, ast.Call) and isinstance(node.func, ast.Attribute):
                called.add(node.func.attr)
        self.assertEqual(methods & stored, set())
        self.assertEqual(called - methods - set(OWN_METHODS), set())

    def test_what_stands_at_the_top(self):
        for name, text in files().items():
            bound = []
            for node in ast.parse(text).body:
                with self.subTest(name=name, line=node.lineno):
                    self.assertIsInstance(node, (ast.Expr, ast.ImportFrom, ast.FunctionDef, ast.ClassDef, ast.Assign))
                    if isinstance(node, ast.Assign):
                        bound.append(node.targets[0].id)
                    if isinstance(node, (ast.FunctionDef, ast.ClassDef)):
                        bound.append(node.name)
                    if isinstance(node, ast.ImportFrom):
                        bound.extend([alias.name for alias in node.names])
            self.assertEqual(len(bound), len(set(bound)), name)

    def test_names_of_the_top_are_given_plain_values(self):
        for name, text in files().items():
            defined = []
            for node in ast.parse(text).body:
                if isinstance(node, ast.FunctionDef):
                    defined.append(node.name)
                if isinstance(node, ast.Assign):
                    self.assertEqual(unplain_parts(node.value, defined), [], name)

    def test_every_name_that_is_drawn_is_used(self):
        for name, text in files().items():
            tree = ast.parse(text)
            used = [node.id for node in ast.walk(tree) if isinstance(node, ast.Name)]
            for node in tree.body:
                if isinstance(node, ast.ImportFrom):
                    for alias in node.names:
                        self.assertIn(alias.name, used, name)

    def test_no_local_is_called_like_a_class_or_an_import(self):
        for name, text in files().items():
            tree = ast.parse(text)
            taken = [alias.name for node in tree.body if isinstance(node, ast.ImportFrom) for alias in node.names]
            taken += [node.name for node in tree.body if isinstance(node, ast.ClassDef)]
            for node in ast.walk(tree):
                if isinstance(node, ast.arg):
                    self.assertNotIn(node.arg, taken, name)
                if isinstance(node, ast.Name) and isinstance(node.ctx, ast.Store):
                    self.assertNotIn(node.id, taken, name)
                if isinstance(node, ast.ExceptHandler) and node.name is not None:
                    self.assertNotIn(node.name, taken, name)

    def test_errors_are_taken_by_name(self):
        own = [node.name for name, node in nodes() if isinstance(node, ast.ClassDef)]
        for name, node in nodes():
            if isinstance(node, ast.ExceptHandler):
                self.assertIsInstance(node.type, ast.Name, name)
                self.assertIn(node.type.id, own + ["KeyError", "ZeroDivisionError", "ValueError", "IndexError"], name)

    def test_what_is_walked_at_once_is_not_kept(self):
        for name, node in nodes():
            if isinstance(node, (ast.Assign, ast.Return)) and isinstance(node.value, ast.Call):
                if isinstance(node.value.func, ast.Name):
                    self.assertNotIn(node.value.func.id, ("zip", "enumerate", "reversed", "range"), name)
                if isinstance(node.value.func, ast.Attribute):
                    self.assertNotIn(node.value.func.attr, ("items", "keys", "values"), name)

    def test_names(self):
        for name, node in nodes():
            if isinstance(node, ast.Name):
                with self.subTest(name=name, line=node.lineno):
                    self.assertFalse(node.id.startswith("_"))
                    if hasattr(builtins, node.id):
                        self.assertIn(node.id, OWN_NAMES)
                        self.assertIsInstance(node.ctx, ast.Load)


if __name__ == "__main__":
    unittest.main()

"""No clock, chance or files, and the part of Python that the package keeps to, as far as a reader of code can tell."""

import ast
import builtins
import pathlib
import re
import unittest

PACKAGE = pathlib.Path(__file__).resolve().parent.parent / "meldhouse"

STATEMENTS = (
    ast.Assign, ast.AugAssign, ast.AnnAssign, ast.If, ast.While, ast.For, ast.Return, ast.Break, ast.Continue,
    ast.Pass, ast.Raise, ast.Try, ast.Expr, ast.FunctionDef, ast.ClassDef, ast.ImportFrom,
)
EXPRESSIONS = (
    ast.Constant, ast.List, ast.Tuple, ast.Dict, ast.Set, ast.BinOp, ast.UnaryOp, ast.BoolOp, ast.Compare,
    ast.IfExp, ast.Call, ast.Attribute, ast.Subscript, ast.Slice, ast.ListComp, ast.JoinedStr, ast.FormattedValue,
    ast.Name, ast.Lambda,
)
OWN_NAMES_OF_PYTHON = """
    len range enumerate zip min max sum abs sorted reversed int str bool list tuple dict set frozenset isinstance
    ord repr any all divmod Exception ValueError TypeError KeyError IndexError LookupError ZeroDivisionError
    ArithmeticError OverflowError RuntimeError NotImplementedError AttributeError StopIteration
""".split()
METHODS_OF_PYTHON = """
    append clear copy count endswith extend find get index insert isalnum isalpha isdigit islower isspace isupper
    items join keys ljust lower lstrip partition pop remove replace reverse rfind rjust rpartition rsplit rstrip
    setdefault split splitlines startswith strip update upper values zfill bit_length __init__
""".split()
WORDS_LEFT_OUT = re.compile(
    r"\b(type|typing|typing_extensions|enum|Enum|IntEnum|StrEnum|Flag|IntFlag|Generic|Protocol|ABC|ABCMeta|namedtuple"
    r"|NamedTuple|TypedDict|TYPE_CHECKING|abstractmethod)\b|dataclass|overload|contextmanager"
)


def is_docstring_of(tree, node):
    return node is tree.body[0] and isinstance(node.value, ast.Constant) and isinstance(node.value.value, str)


class Form(unittest.TestCase):
    @classmethod
    def setUpClass(cls):
        cls.texts = {path.name: path.read_text("utf-8") for path in sorted(PACKAGE.glob("*.py"))}
        cls.trees = {name: ast.parse(text) for name, text in cls.texts.items()}

    def nodes(self, *kinds):
        for name, tree in self.trees.items():
            for node in ast.walk(tree):
                if isinstance(node, kinds):
                    yield f"{name}:{node.lineno}", node

    def test_the_package_holds_plain_files_alone(self):
        for path in PACKAGE.iterdir():
            if path.name != "__pycache__":
                self.assertRegex(path.name, r"^[a-z0-9_]+\.py$")
        self.assertIn("__init__.py", self.texts)

    def test_imports_are_the_package_s_own(self):
        for name, tree in self.trees.items():
            for node in ast.walk(tree):
                if isinstance(node, (ast.Import, ast.ImportFrom)):
                    self.assertIsInstance(node, ast.ImportFrom, name)
                    self.assertEqual(node.level, 0, name)
                    self.assertRegex(node.module, r"^meldhouse\.[a-z_]+$", name)
                    self.assertIn(node, tree.body, name)

    def test_statements(self):
        for place, node in self.nodes(ast.stmt):
            self.assertIsInstance(node, STATEMENTS, place)
        for place, node in self.nodes(ast.For, ast.While):
            self.assertEqual(node.orelse, [], place)
        for place, node in self.nodes(ast.FunctionDef, ast.ClassDef):
            self.assertEqual(node.decorator_list, [], place)
        for place, node in self.nodes(ast.Assign):
            self.assertEqual(len(node.targets), 1, place)

    def test_a_lone_expression_is_a_call_or_the_docstring_of_a_file(self):
        for name, tree in self.trees.items():
            for node in ast.walk(tree):
                if isinstance(node, ast.Expr):
                    self.assertTrue(isinstance(node.value, ast.Call) or is_docstring_of(tree, node), name)

    def test_expressions(self):
        for place, node in self.nodes(ast.expr):
            self.assertIsInstance(node, EXPRESSIONS, place)
        for place, node in self.nodes(ast.Constant):
            self.assertIn(type(node.value), (int, str, bool, type(None)), place)
        for place, node in self.nodes(ast.BinOp, ast.AugAssign):
            self.assertNotIsInstance(node.op, (ast.Div, ast.MatMult), place)
        for place, node in self.nodes(ast.ListComp):
            self.assertEqual(len(node.generators), 1, place)
            self.assertLessEqual(len(node.generators[0].ifs), 1, place)

    def test_names_of_python_that_are_used(self):
        for place, node in self.nodes(ast.Name):
            self.assertRegex(node.id, r"^[A-Za-z][A-Za-z0-9_]*$", place)
            if hasattr(builtins, node.id):
                self.assertIn(node.id, OWN_NAMES_OF_PYTHON, place)
                self.assertIsInstance(node.ctx, ast.Load, place)
        for place, node in self.nodes(ast.arg):
            self.assertFalse(hasattr(builtins, node.arg), place)

    def test_names_are_drawn_from_the_file_that_defines_them(self):
        for place, node in self.nodes(ast.ImportFrom):
            defined = self.names_at_the_top(node.module.split(".")[1] + ".py")
            for alias in node.names:
                self.assertIn(alias.name, defined, place)
                self.assertIsNone(alias.asname, place)

    def names_at_the_top(self, name):
        body = self.trees[name].body
        named = [node.name for node in body if isinstance(node, (ast.FunctionDef, ast.ClassDef))]
        return named + [target.id for node in body if isinstance(node, ast.Assign) for target in node.targets]

    def test_no_two_files_draw_from_one_another(self):
        drawn = {name: set() for name in self.trees}
        for place, node in self.nodes(ast.ImportFrom):
            drawn[place.split(":")[0]].add(node.module.split(".")[1] + ".py")
        while drawn:
            free = [name for name in drawn if not drawn[name] & set(drawn)]
            self.assertTrue(free, sorted(drawn))
            for name in free:
                del drawn[name]

    def test_no_local_is_called_like_an_import_or_a_name_of_the_top(self):
        for name, tree in self.trees.items():
            taken = set(self.names_at_the_top(name))
            taken |= {alias.name for node in tree.body if isinstance(node, ast.ImportFrom) for alias in node.names}
            for function in ast.walk(tree):
                if isinstance(function, ast.FunctionDef):
                    for node in ast.walk(function):
                        if isinstance(node, ast.arg):
                            self.assertNotIn(node.arg, taken, name)
                        if isinstance(node, ast.Name) and isinstance(node.ctx, ast.Store):
                            self.assertNotIn(node.id, taken, name)

    def test_is_stands_beside_none_true_and_false_alone(self):
        for place, node in self.nodes(ast.Compare):
            for operator, operand in zip(node.ops, node.comparators):
                if isinstance(operator, (ast.Is, ast.IsNot)):
                    self.assertIn(ast.unparse(operand), ("None", "True", "False"), place)

    def test_methods_that_are_called(self):
        own = [node.name for place, node in self.nodes(ast.FunctionDef)]
        for place, node in self.nodes(ast.Call):
            if isinstance(node.func, ast.Attribute):
                self.assertIn(node.func.attr, METHODS_OF_PYTHON + own, place)

    def test_plain_parameters(self):
        for place, node in self.nodes(ast.FunctionDef, ast.Lambda):
            given = node.args
            self.assertEqual((given.vararg, given.kwarg, given.kwonlyargs, given.posonlyargs), (None, None, [], []), place)

    def test_sizes_and_signs(self):
        for name, text in self.texts.items():
            lines = text.split("\n")
            self.assertLessEqual(len(lines), 400, name)
            self.assertLessEqual(max(len(line) for line in lines), 120, name)
            self.assertRegex(text, r"\A[ -~\n]*\Z", name)
        for place, node in self.nodes(ast.FunctionDef):
            self.assertLessEqual(node.end_lineno - node.lineno + 1, 40, place)

    def test_words_left_out(self):
        for name, text in self.texts.items():
            self.assertIsNone(WORDS_LEFT_OUT.search(text), name)


if __name__ == "__main__":
    unittest.main()

"""The package's own files keep to the small part of Python that it is written in, as far as this can be seen here."""

import ast
import builtins
import pathlib
import re
import unittest

PACKAGE = pathlib.Path(__file__).resolve().parent.parent / "indexneeds"

NODES = (
    "Module FunctionDef ClassDef arguments arg Lambda ImportFrom alias Assign AugAssign If While For Return Break "
    "Continue Pass Raise Try ExceptHandler Expr Name Load Store Constant List Tuple Dict Set BinOp UnaryOp BoolOp "
    "Compare IfExp Call keyword Attribute Subscript Slice ListComp comprehension JoinedStr FormattedValue Add Sub "
    "Mult FloorDiv Mod Pow BitAnd BitOr BitXor LShift RShift Invert USub UAdd Not And Or Eq NotEq Lt LtE Gt GtE "
    "Is IsNot In NotIn"
).split()

BUILTINS = (
    "len range enumerate zip min max sum abs sorted reversed int str bool list tuple dict set frozenset isinstance "
    "ord repr any all divmod Exception ValueError TypeError KeyError IndexError LookupError ZeroDivisionError "
    "ArithmeticError OverflowError RuntimeError NotImplementedError AttributeError StopIteration"
).split()

METHODS = (
    "append clear copy count endswith extend find get index insert isalnum isalpha isdigit islower isspace isupper "
    "items join keys ljust lower lstrip partition pop remove replace reverse rfind rjust rpartition rsplit rstrip "
    "setdefault split splitlines startswith strip update upper values zfill bit_length"
).split()

FORBIDDEN_WORDS = (
    "type typing typing_extensions enum Enum IntEnum StrEnum Flag IntFlag Generic Protocol ABC ABCMeta namedtuple "
    "NamedTuple TypedDict TYPE_CHECKING abstractmethod"
).split()


def files():
    return sorted(path for path in PACKAGE.rglob("*") if "__pycache__" not in path.parts)


def nodes(kind):
    for path in files():
        for node in ast.walk(ast.parse(path.read_text())):
            if isinstance(node, kind):
                yield path.name, node


class LanguageTest(unittest.TestCase):
    def test_files_and_signs(self):
        self.assertIn("desk.py", [path.name for path in files()])
        for path in files():
            self.assertRegex(path.name, r"^[a-z0-9_]+\.py$")
            text = path.read_bytes().decode("ascii")
            self.assertRegex(text, r"\A[ -~\n]*\Z", path.name)
            self.assertLess(len(text.splitlines()), 400, path.name)
            self.assertLessEqual(max(map(len, text.splitlines())), 120, path.name)
            self.assertFalse(set(re.findall(r"\w+", text)) & set(FORBIDDEN_WORDS), path.name)
            self.assertNotRegex(text, "dataclass|overload|contextmanager")

    def test_kinds_of_nodes(self):
        for name, node in nodes((ast.stmt, ast.expr, ast.operator, ast.unaryop, ast.boolop, ast.cmpop)):
            self.assertIn(type(node).__name__, NODES, (name, getattr(node, "lineno", None)))

    def test_imports(self):
        for name, node in nodes(ast.ImportFrom):
            self.assertEqual(node.level, 0, name)
            self.assertTrue((PACKAGE.parent / (node.module.replace(".", "/") + ".py")).exists(), node.module)
            self.assertNotIn("*", [alias.name for alias in node.names])

    def test_functions(self):
        for name, node in nodes(ast.FunctionDef):
            where = (name, node.name)
            self.assertLessEqual(node.end_lineno - node.lineno + 1, 40, where)
            self.assertFalse(node.decorator_list or node.args.vararg or node.args.kwarg or node.args.kwonlyargs, where)

    def test_statements(self):
        for name, node in nodes(ast.Assign):
            self.assertEqual(len(node.targets), 1, (name, node.lineno))
        for name, node in nodes((ast.For, ast.While)):
            self.assertFalse(node.orelse, (name, node.lineno))
        for name, node in nodes(ast.Expr):
            docstring = isinstance(node.value, ast.Constant) and node.lineno == 1
            self.assertTrue(docstring or isinstance(node.value, ast.Call), (name, node.lineno))
        for name, node in nodes(ast.FormattedValue):
            self.assertIsInstance(node.value, ast.Name, (name, node.lineno))
        for name, node in nodes(ast.Compare):
            if any(isinstance(sign, (ast.Is, ast.IsNot)) for sign in node.ops):
                self.assertIsInstance(node.comparators[0], ast.Constant, (name, node.lineno))

    def test_names(self):
        for name, node in nodes(ast.Name):
            own = node.id in BUILTINS and isinstance(node.ctx, ast.Load)
            self.assertTrue(own or not hasattr(builtins, node.id), (name, node.id))
            self.assertRegex(node.id, "^[A-Za-z]", name)
        for name, node in nodes(ast.arg):
            self.assertFalse(hasattr(builtins, node.arg), (name, node.arg))

    def test_methods_and_values(self):
        methods = {node.name for _, node in nodes(ast.FunctionDef)}
        stored = {node.attr for _, node in nodes(ast.Attribute) if isinstance(node.ctx, ast.Store)}
        pythons = {attr for kind in (str, int, list, dict, set, bytes) for attr in dir(kind)}
        self.assertFalse(stored & (methods | pythons))
        for name, node in nodes(ast.Attribute):
            self.assertTrue(node.attr in METHODS or node.attr in methods | stored, (name, node.attr))


if __name__ == "__main__":
    unittest.main()

"""The rules of the language that can be seen from the signs and the parse tree of the package's files."""

import ast
import pathlib
import re
import unittest

PACKAGE = pathlib.Path(__file__).resolve().parent.parent / "twinshelves"

NODES = (
    ast.Module, ast.FunctionDef, ast.ClassDef, ast.Lambda, ast.arguments, ast.arg, ast.keyword, ast.ImportFrom,
    ast.alias, ast.Assign, ast.AugAssign, ast.If, ast.While, ast.For, ast.Return, ast.Break, ast.Continue, ast.Pass,
    ast.Raise, ast.Try, ast.ExceptHandler, ast.Expr, ast.Constant, ast.List, ast.Tuple, ast.Dict, ast.BinOp,
    ast.BoolOp, ast.UnaryOp, ast.Compare, ast.IfExp, ast.Call, ast.Attribute, ast.Subscript, ast.Slice, ast.Name,
    ast.ListComp, ast.comprehension, ast.JoinedStr, ast.FormattedValue, ast.expr_context, ast.boolop, ast.operator,
    ast.unaryop, ast.cmpop,
)
OWN_NAMES = set(
    "len range enumerate zip min max sum abs sorted reversed int str bool list tuple dict set frozenset isinstance ord "
    "repr any all divmod Exception ValueError TypeError KeyError IndexError LookupError ZeroDivisionError "
    "ArithmeticError OverflowError RuntimeError NotImplementedError AttributeError StopIteration".split()
)
OUT = re.compile(
    r"\b(type|typing|typing_extensions|enum|Enum|IntEnum|StrEnum|Flag|IntFlag|Generic|Protocol|ABC|ABCMeta|namedtuple"
    r"|NamedTuple|TypedDict|TYPE_CHECKING|abstractmethod)\b|dataclass|overload|contextmanager"
)
OWN_METHODS = set(
    "append clear copy count endswith extend find get index insert isalnum isalpha isdigit islower isspace isupper items "
    "join keys ljust lower lstrip partition pop remove replace reverse rfind rjust rpartition rsplit rstrip setdefault "
    "split splitlines startswith strip update upper values zfill bit_length".split()
)
PYTHON_METHODS = set(dir("") + dir(0) + dir([]) + dir(()) + dir({}) + dir(set()) + dir(b""))
WALKERS = ("list", "tuple", "dict", "sorted", "sum", "any", "all", "enumerate", "zip")
OUT_NAMES = set(dir(__builtins__) if not isinstance(__builtins__, dict) else __builtins__)


def package_files():
    return sorted(PACKAGE.glob("*.py"))


def trees():
    return [(path.name, ast.parse(path.read_text())) for path in package_files()]


def bound_names(node):
    if isinstance(node, ast.Name) and isinstance(node.ctx, ast.Store):
        return [node.id]
    if isinstance(node, ast.arg):
        return [node.arg]
    if isinstance(node, (ast.FunctionDef, ast.ClassDef)):
        return [node.name]
    return []


class Language(unittest.TestCase):
    def test_the_folder_holds_plain_files_alone(self):
        found = [path for path in PACKAGE.iterdir() if path.name != "__pycache__"]
        self.assertEqual(sorted(found), package_files())
        for path in found:
            self.assertRegex(path.name, r"^(__init__|[a-z][a-z0-9_]*)\.py$")

    def test_signs_and_size(self):
        for path in package_files():
            rows = path.read_bytes().decode("ascii").split("\n")
            self.assertLessEqual(len(rows), 401, path)
            for row in rows:
                self.assertLessEqual(len(row), 120, (path, row))
                self.assertTrue(all(" " <= sign <= "~" for sign in row), (path, row))
                self.assertIsNone(OUT.search(row), (path, row))

    def test_functions_are_short_and_plain(self):
        for name, tree in trees():
            for node in ast.walk(tree):
                if isinstance(node, ast.FunctionDef):
                    self.assertLess(node.end_lineno - node.lineno, 40, (name, node.name))
                    self.assertEqual(node.decorator_list, [])
                if isinstance(node, ast.arguments):
                    self.assertEqual((node.vararg, node.kwarg, node.kwonlyargs, node.posonlyargs),
                                     (None, None, [], []), name)

    def test_only_the_listed_forms(self):
        for name, tree in trees():
            for node in ast.walk(tree):
                self.assertIsInstance(node, NODES, name)
                self.assertNotIsInstance(node, (ast.Div, ast.MatMult), name)
                if isinstance(node, ast.Assign):
                    self.assertEqual(len(node.targets), 1, name)
                if isinstance(node, (ast.For, ast.While)):
                    self.assertEqual(node.orelse, [], name)
                if isinstance(node, ast.ListComp):
                    self.assertEqual(len(node.generators), 1, name)
                    self.assertLessEqual(len(node.generators[0].ifs), 1, name)
                if isinstance(node, ast.Constant):
                    self.assertIsInstance(node.value, (int, str, type(None)), name)
                    self.assertFalse(isinstance(node.value, str) and "%" in node.value, name)

    def test_imports_are_the_packages_own(self):
        for name, tree in trees():
            for node in ast.walk(tree):
                if isinstance(node, ast.ImportFrom):
                    self.assertRegex(node.module, r"^twinshelves\.[a-z]+$", name)
                    self.assertEqual(node.level, 0, name)
                    defined = ast.parse((PACKAGE / (node.module.split(".")[1] + ".py")).read_text()).body
                    there = [bound for row in defined for part in ast.walk(row) for bound in bound_names(part)]
                    for drawn in node.names:
                        self.assertIn(drawn.name, there, name)

    def test_names(self):
        for name, tree in trees():
            bound = [word for node in ast.walk(tree) for word in bound_names(node)]
            for word in bound:
                self.assertRegex(word, r"^([A-Za-z][A-Za-z0-9_]*|__(init|eq|repr|str|len)__)$", name)
                self.assertNotIn(word, OUT_NAMES, name)
            imported = [drawn.name for node in ast.walk(tree) if isinstance(node, ast.ImportFrom)
                        for drawn in node.names]
            for node in ast.walk(tree):
                if isinstance(node, ast.Name):
                    self.assertTrue(node.id in bound or node.id in imported or node.id in OWN_NAMES, (name, node.id))

    def test_no_local_is_called_like_a_class_or_an_import(self):
        for name, tree in trees():
            tops = [drawn.name for node in ast.walk(tree) if isinstance(node, ast.ImportFrom) for drawn in node.names]
            tops += [node.name for node in tree.body if isinstance(node, ast.ClassDef)]
            for node in ast.walk(tree):
                if isinstance(node, (ast.Name, ast.arg)):
                    self.assertEqual(set(bound_names(node)) & set(tops), set(), name)

    def test_what_is_walked_is_walked_on_the_spot(self):
        for name, tree in trees():
            walked = [node.iter for node in ast.walk(tree) if isinstance(node, (ast.For, ast.comprehension))]
            walked += [node.args[0] for node in ast.walk(tree) if isinstance(node, ast.Call) and node.args
                       and isinstance(node.func, ast.Name) and node.func.id in WALKERS]
            for node in ast.walk(tree):
                called = getattr(node.func, "id", getattr(node.func, "attr", "")) if isinstance(node, ast.Call) else ""
                if called in ("zip", "enumerate", "reversed", "range", "items", "keys", "values"):
                    self.assertIn(node, walked, (name, node.lineno))

    def test_methods_and_values_of_objects(self):
        methods, values = set(), set()
        for name, tree in trees():
            for node in ast.walk(tree):
                if isinstance(node, ast.ClassDef):
                    methods.update(part.name for part in node.body if isinstance(part, ast.FunctionDef))
                    self.assertTrue(all(isinstance(part, (ast.FunctionDef, ast.Pass)) for part in node.body), name)
                if isinstance(node, ast.Attribute):
                    self.assertTrue(node.attr in OWN_METHODS or node.attr not in PYTHON_METHODS, (name, node.attr))
                    self.assertNotIn(node.attr, ("register", "mro", "elements", "open", "input", "args"), name)
                    if isinstance(node.ctx, ast.Store):
                        values.add(node.attr)
        self.assertEqual(methods & values, set())
        self.assertEqual((methods | values) & PYTHON_METHODS - OWN_METHODS, {"__init__"})

    def test_errors_of_pythons_own_are_taken_round_one_call_alone(self):
        for name, tree in trees():
            for node in ast.walk(tree):
                if isinstance(node, ast.Try):
                    self.assertEqual((len(node.body), node.finalbody), (1, []), name)
                    for handler in node.handlers:
                        self.assertNotIn(handler.type.id, ("Exception", "TypeError"), name)
                        if handler.type.id == "ValueError":
                            calls = [part.func for part in ast.walk(node.body[0]) if isinstance(part, ast.Call)]
                            self.assertEqual([call.id for call in calls], ["int"], name)


if __name__ == "__main__":
    unittest.main()

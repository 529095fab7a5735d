"""The package's files keep to the part of Python that is asked for, as far as is easily seen."""

import ast
import builtins
import importlib
import pathlib
import re
import unittest

PACKAGE = pathlib.Path(__file__).resolve().parent.parent / "needplan"
MODULES = ("errors", "wares", "order", "explode", "rows", "plans", "shifts", "pegs", "cheap", "texts", "desk")
WORDS = re.compile(
    r"\b(type|typing|typing_extensions|enum|Enum|IntEnum|StrEnum|Flag|IntFlag|Generic|Protocol|ABC|ABCMeta"
    r"|namedtuple|NamedTuple|TypedDict|TYPE_CHECKING|abstractmethod)\b|dataclass|overload|contextmanager")
STATEMENTS = (ast.FunctionDef, ast.ClassDef, ast.ImportFrom, ast.Assign, ast.AugAssign, ast.If, ast.While, ast.For,
              ast.Return, ast.Break, ast.Continue, ast.Pass, ast.Raise, ast.Try, ast.Expr)
NO_EXPRESSIONS = (ast.Set, ast.SetComp, ast.DictComp, ast.GeneratorExp, ast.NamedExpr, ast.Starred, ast.Yield,
                  ast.YieldFrom, ast.Await, ast.Div, ast.MatMult)

BUILT_IN = """len range enumerate zip min max sum abs sorted reversed int str bool list tuple dict set frozenset isinstance
    ord repr any all divmod Exception ValueError TypeError KeyError IndexError LookupError ZeroDivisionError
    ArithmeticError OverflowError RuntimeError NotImplementedError StopIteration""".split()
METHODS = """append clear copy count endswith extend find get index insert isalnum isalpha isdigit islower isspace isupper
    items join keys ljust lower lstrip partition pop remove replace reverse rfind rjust rpartition rsplit rstrip
    setdefault split splitlines startswith strip update upper values zfill bit_length""".split()


# The methods and values of the program's own classes.
OWN = ["kept", "tell"]


def files():
    return sorted(path for path in PACKAGE.rglob("*") if path.is_file() and path.parent.name != "__pycache__")


def trees():
    return [(path, ast.parse(path.read_text("ascii"))) for path in files()]


class Language(unittest.TestCase):
    def test_the_package_imports(self):
        importlib.import_module("needplan")
        for name in MODULES:
            module = importlib.import_module(f"needplan.{name}")
            self.assertEqual(pathlib.Path(module.__file__).resolve(), PACKAGE / f"{name}.py")

    def test_files(self):
        self.assertIn("__init__.py", [path.name for path in files()])
        for path in files():
            self.assertRegex(path.name, r"\A(__init__|__main__|[a-z][a-z0-9_]*)\.py\Z")
            self.assertEqual(path.parent, PACKAGE)

    def test_signs(self):
        for path in files():
            odd = [code for code in path.read_bytes() if code != 10 and not 32 <= code <= 126]
            self.assertEqual(odd, [], path)

    def test_sizes(self):
        for path, tree in trees():
            lines = path.read_text("ascii").split("\n")
            self.assertLessEqual(len(lines), 400, path)
            self.assertLessEqual(max(map(len, lines)), 120, path)
            for node in ast.walk(tree):
                if isinstance(node, ast.FunctionDef):
                    self.assertLessEqual(node.end_lineno - node.lineno + 1, 40, (path, node.name))

    def test_words(self):
        for path in files():
            self.assertIsNone(WORDS.search(path.read_text("ascii")), path)

    def test_statements_and_expressions(self):
        for path, tree in trees():
            for node in ast.walk(tree):
                where = (path, getattr(node, "lineno", None), node)
                if isinstance(node, ast.stmt):
                    self.assertIsInstance(node, STATEMENTS, where)
                self.assertNotIsInstance(node, NO_EXPRESSIONS, where)
                if isinstance(node, ast.Constant):
                    self.assertNotIsInstance(node.value, (float, complex, bytes), where)

    def test_imports(self):
        for path, tree in trees():
            for node in ast.walk(tree):
                if isinstance(node, ast.ImportFrom):
                    self.assertEqual(node.level, 0, path)
                    self.assertRegex(node.module, r"\Aneedplan\.[a-z]+\Z", path)
                    self.assertNotIn("*", [entry.name for entry in node.names], path)

    def test_names_of_python_s_own(self):
        for path, tree in trees():
            for node in ast.walk(tree):
                if isinstance(node, ast.Name) and hasattr(builtins, node.id):
                    self.assertIn(node.id, BUILT_IN, (path, node.lineno))
                if isinstance(node, ast.Attribute):
                    self.assertIn(node.attr, METHODS + OWN, (path, node.lineno))
                if isinstance(node, ast.Compare) and any(isinstance(sort, (ast.Is, ast.IsNot)) for sort in node.ops):
                    self.assertIn(ast.unparse(node.comparators[0]), ("None", "True", "False"), (path, node.lineno))

    def test_given_names(self):
        for path, tree in trees():
            taken = [entry.name for node in tree.body if isinstance(node, ast.ImportFrom) for entry in node.names]
            taken += [node.name for node in tree.body if isinstance(node, ast.ClassDef)]
            self.assertEqual(len(taken), len(set(taken)), path)
            read = [node.id for node in ast.walk(tree) if isinstance(node, ast.Name) and isinstance(node.ctx, ast.Load)]
            for node in ast.walk(tree):
                if isinstance(node, ast.ImportFrom):
                    self.assertLessEqual({entry.name for entry in node.names}, set(read), path)
                stored = isinstance(node, ast.Name) and isinstance(node.ctx, ast.Store)
                if stored or isinstance(node, ast.arg):
                    name = node.id if stored else node.arg
                    self.assertRegex(name, r"\A[A-Za-z][A-Za-z0-9_]*\Z", (path, node.lineno))
                    self.assertNotIn(name, taken + dir(builtins), (path, node.lineno))


if __name__ == "__main__":
    unittest.main()

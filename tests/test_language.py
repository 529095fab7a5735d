"""The package's files keep to the part of Python that is asked for, as far as is easily seen."""

import ast
import importlib
import pathlib
import re
import unittest

PACKAGE = pathlib.Path(__file__).resolve().parent.parent / "needplan"
MODULES = ("errors", "wares", "order")
WORDS = re.compile(
    r"\b(type|typing|typing_extensions|enum|Enum|IntEnum|StrEnum|Flag|IntFlag|Generic|Protocol|ABC|ABCMeta"
    r"|namedtuple|NamedTuple|TypedDict|TYPE_CHECKING|abstractmethod)\b|dataclass|overload|contextmanager")
STATEMENTS = (ast.FunctionDef, ast.ClassDef, ast.ImportFrom, ast.Assign, ast.AugAssign, ast.If, ast.While, ast.For,
              ast.Return, ast.Break, ast.Continue, ast.Pass, ast.Raise, ast.Try, ast.Expr)
NO_EXPRESSIONS = (ast.Set, ast.SetComp, ast.DictComp, ast.GeneratorExp, ast.NamedExpr, ast.Starred, ast.Yield,
                  ast.YieldFrom, ast.Await, ast.Div, ast.MatMult)


def files():
    return sorted(path for path in PACKAGE.rglob("*") if path.is_file() and path.parent.name != "__pycache__")


def trees():
    return [(path, ast.parse(path.read_text("ascii"))) for path in files()]


class Language(unittest.TestCase):
    def test_the_package_imports(self):
        importlib.import_module("needplan")
        for name in MODULES:
            module = importlib.import_module(f"needplan.{name}")
            self.assertEqual(pathlib.Path(module.__file__).resolve(), PACKAGE / f"{name}.py")

    def test_files(self):
        self.assertIn("__init__.py", [path.name for path in files()])
        for path in files():
            self.assertRegex(path.name, r"\A(__init__|__main__|[a-z][a-z0-9_]*)\.py\Z")
            self.assertEqual(path.parent, PACKAGE)

    def test_signs(self):
        for path in files():
            odd = [code for code in path.read_bytes() if code != 10 and not 32 <= code <= 126]
            self.assertEqual(odd, [], path)

    def test_sizes(self):
        for path, tree in trees():
            lines = path.read_text("ascii").split("\n")
            self.assertLessEqual(len(lines), 400, path)
            self.assertLessEqual(max(map(len, lines)), 120, path)
            for node in ast.walk(tree):
                if isinstance(node, ast.FunctionDef):
                    self.assertLessEqual(node.end_lineno - node.lineno + 1, 40, (path, node.name))

    def test_words(self):
        for path in files():
            self.assertIsNone(WORDS.search(path.read_text("ascii")), path)

    def test_statements_and_expressions(self):
        for path, tree in trees():
            for node in ast.walk(tree):
                where = (path, getattr(node, "lineno", None), node)
                if isinstance(node, ast.stmt):
                    self.assertIsInstance(node, STATEMENTS, where)
                self.assertNotIsInstance(node, NO_EXPRESSIONS, where)
                if isinstance(node, ast.Constant):
                    self.assertNotIsInstance(node.value, (float, complex, bytes), where)

    def test_imports(self):
        for path, tree in trees():
            for node in ast.walk(tree):
                if isinstance(node, ast.ImportFrom):
                    self.assertEqual(node.level, 0, path)
                    self.assertRegex(node.module, r"\Aneedplan\.[a-z]+\Z", path)
                    self.assertNotIn("*", [entry.name for entry in node.names], path)


if __name__ == "__main__":
    unittest.main()

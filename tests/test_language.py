"""The package's own files, held against those rules of the language that can be seen in them."""

import ast
import builtins
import re
import unittest
from pathlib import Path

PACKAGE = Path(__file__).resolve().parent.parent / "nestwright"
FILES = sorted(PACKAGE.rglob("*.py"))

ALLOWED = set(
    "len range enumerate zip min max sum abs sorted reversed int str bool bytes list tuple dict set frozenset"
    " isinstance ord repr any all divmod Exception ValueError TypeError KeyError IndexError LookupError"
    " ZeroDivisionError ArithmeticError OverflowError RuntimeError NotImplementedError AttributeError"
    " StopIteration".split()
)
METHODS = set(
    "append clear copy count endswith extend find get index insert isalnum isalpha isdigit islower isspace isupper"
    " items join keys ljust lower lstrip partition pop remove replace reverse rfind rjust rpartition rsplit rstrip"
    " setdefault split splitlines startswith strip update upper values zfill bit_length".split()
)
WORDS = re.compile(
    r"\b(type|typing|typing_extensions|enum|Enum|IntEnum|StrEnum|Flag|IntFlag|Generic|Protocol|ABC|ABCMeta"
    r"|namedtuple|NamedTuple|TypedDict|TYPE_CHECKING|abstractmethod)\b|dataclass|overload|contextmanager"
)
UNUSED = set("register mro elements open input version_info with_traceback add_note chr".split())
STATEMENTS = (
    ast.FunctionDef, ast.ClassDef, ast.Assign, ast.AugAssign, ast.If, ast.While, ast.For, ast.Return, ast.Break,
    ast.Continue, ast.Pass, ast.Raise, ast.Try, ast.Expr, ast.ImportFrom, ast.Assert, ast.Delete,
)
BARRED = (ast.GeneratorExp, ast.NamedExpr, ast.Div, ast.Starred, ast.Await, ast.Yield, ast.YieldFrom, ast.MatMult)
COMPREHENSIONS = (ast.ListComp, ast.DictComp, ast.SetComp)


def trees():
    return [(path.name, ast.parse(path.read_text())) for path in FILES]


def bound_names(tree):
    told = [node.id for node in ast.walk(tree) if isinstance(node, ast.Name) and isinstance(node.ctx, ast.Store)]
    told += [node.arg for node in ast.walk(tree) if isinstance(node, ast.arg)]
    told += [node.name for node in ast.walk(tree) if isinstance(node, (ast.FunctionDef, ast.ClassDef))]
    return told


def drawn(tree):
    return [alias.name for node in ast.walk(tree) if isinstance(node, ast.ImportFrom) for alias in node.names]


class Language(unittest.TestCase):
    def test_the_folder_holds_plain_files_alone(self):
        for path in PACKAGE.iterdir():
            if path.name != "__pycache__":
                self.assertRegex(path.name, r"^([a-z][a-z0-9_]*|__init__)\.py$")

    def test_signs_and_sizes(self):
        for path in FILES:
            text = path.read_text()
            self.assertRegex(text, r"\A[ -~\n]*\Z", path.name)
            self.assertLessEqual(len(text.split("\n")), 400, path.name)
            self.assertTrue(all(len(row) <= 120 for row in text.split("\n")), path.name)
            self.assertIsNone(WORDS.search(text), path.name)

    def test_defs_have_at_most_forty_rows(self):
        for name, tree in trees():
            for node in ast.walk(tree):
                if isinstance(node, ast.FunctionDef):
                    self.assertLessEqual(node.end_lineno - node.lineno + 1, 40, (name, node.name))

    def test_statements_and_expressions(self):
        for name, tree in trees():
            for node in ast.walk(tree):
                where = (name, getattr(node, "lineno", 0))
                if isinstance(node, ast.stmt):
                    self.assertIsInstance(node, STATEMENTS, where)
                self.assertNotIsInstance(node, BARRED, where)
                if isinstance(node, (ast.For, ast.While)):
                    self.assertEqual(node.orelse, [], where)
                if isinstance(node, (ast.FunctionDef, ast.ClassDef)):
                    self.assertEqual(node.decorator_list, [], where)
                if isinstance(node, ast.Constant):
                    self.assertNotIsInstance(node.value, (float, complex), where)
                    self.assertNotIn("%", node.value if isinstance(node.value, str) else "", where)
                if isinstance(node, ast.FormattedValue):
                    self.assertIsNone(node.format_spec, where)

    def test_powers_have_a_written_exponent(self):
        for name, tree in trees():
            for node in ast.walk(tree):
                if isinstance(node, ast.BinOp) and isinstance(node.op, ast.Pow):
                    self.assertIsInstance(node.right, ast.Constant, name)
                    self.assertIn(node.right.value, range(65), name)

    def test_only_plain_rows_stand_at_a_top(self):
        for name, tree in trees():
            rows = (ast.FunctionDef, ast.ClassDef, ast.ImportFrom, ast.Assign)
            for node in tree.body[1:] if ast.get_docstring(tree) else tree.body:
                self.assertIsInstance(node, rows, (name, node.lineno))
                if isinstance(node, ast.Assign):
                    inner = ast.walk(node.value)
                    self.assertFalse([part for part in inner if isinstance(part, COMPREHENSIONS + (ast.Call,))], name)

    def test_imports(self):
        for name, tree in trees():
            for node in ast.walk(tree):
                if isinstance(node, ast.ImportFrom):
                    self.assertEqual(node.level, 0, name)
                    self.assertRegex(node.module, r"^nestwright\.[a-z]+$", name)
                    source = ast.parse((PACKAGE / (node.module.split(".")[1] + ".py")).read_text())
                    there = [part.name for part in source.body if isinstance(part, (ast.FunctionDef, ast.ClassDef))]
                    there += [
                        target.id for part in source.body if isinstance(part, ast.Assign) for target in part.targets
                    ]
                    for alias in node.names:
                        self.assertIn(alias.name, there, name)

    def test_what_is_drawn_in_is_used(self):
        for name, tree in trees():
            used = [node.id for node in ast.walk(tree) if isinstance(node, ast.Name)]
            for word in drawn(tree):
                self.assertIn(word, used, name)

    def test_names(self):
        own = set(dir(builtins))
        for name, tree in trees():
            tops = [node.name for node in tree.body if isinstance(node, (ast.FunctionDef, ast.ClassDef))]
            given = [word for word in bound_names(tree) if word != "__init__"]
            for word in given:
                self.assertRegex(word, r"^[A-Za-z][A-Za-z0-9_]*$", name)
                self.assertNotIn(word, own | UNUSED, name)
                self.assertNotIn(word, drawn(tree), name)
            for word in tops:
                self.assertEqual(given.count(word), 1, (name, word))
            for node in ast.walk(tree):
                if isinstance(node, ast.Name) and node.id in own:
                    self.assertIn(node.id, ALLOWED, (name, node.lineno))

    def test_methods_and_values(self):
        fields = {"at", "name"}
        for name, tree in trees():
            for node in ast.walk(tree):
                if isinstance(node, ast.Attribute):
                    self.assertIn(node.attr, METHODS | fields, (name, node.lineno))


if __name__ == "__main__":
    unittest.main()

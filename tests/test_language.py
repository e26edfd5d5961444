"""The form of the package's files, as far as it can be seen from outside."""

import ast
import builtins
import pathlib
import re
import unittest

PACKAGE = pathlib.Path(__file__).resolve().parent.parent / "levelloads"
FILES = sorted(path for path in PACKAGE.iterdir() if path.name != "__pycache__")
WORDS = (
    "type", "typing", "typing_extensions", "enum", "Enum", "IntEnum", "StrEnum", "Flag", "IntFlag", "Generic",
    "Protocol", "ABC", "ABCMeta", "namedtuple", "NamedTuple", "TypedDict", "TYPE_CHECKING", "abstractmethod",
    "register", "mro", "elements", "open", "input", "getattr", "setattr", "eval", "exec", "globals",
)
OUTSIDE = (
    ast.With, ast.Match, ast.Delete, ast.Global, ast.Nonlocal, ast.Assert, ast.Yield, ast.YieldFrom, ast.Await,
    ast.AsyncFunctionDef, ast.AsyncFor, ast.AsyncWith, ast.SetComp, ast.DictComp, ast.GeneratorExp, ast.NamedExpr,
    ast.Starred, ast.Div, ast.Pow, ast.Import, ast.AnnAssign,
)
OWN = (
    "len", "range", "enumerate", "zip", "min", "max", "sum", "abs", "sorted", "reversed", "int", "str", "bool", "list",
    "tuple", "dict", "set", "frozenset", "isinstance", "ord", "repr", "any", "all", "divmod",
)


def trees():
    return [(path.name, ast.parse(path.read_text())) for path in FILES]


class Language(unittest.TestCase):

    def test_nothing_but_plain_files(self):
        self.assertIn("__init__.py", [path.name for path in FILES])
        for path in FILES:
            self.assertRegex(path.name, r"\A(__init__|[a-z][a-z0-9_]*)\.py\Z")

    def test_signs_and_sizes(self):
        for path in FILES:
            lines = path.read_bytes().decode("ascii").split("\n")
            self.assertLessEqual(len(lines), 400)
            for line in lines:
                self.assertRegex(line, r"\A[ -~]{0,120}\Z")

    def test_words_that_stand_nowhere(self):
        for path in FILES:
            found = set(re.findall(r"[A-Za-z_]+", path.read_text())) & set(WORDS)
            self.assertEqual(found, set(), path.name)

    def test_functions_of_40_lines_at_most(self):
        for name, tree in trees():
            for node in ast.walk(tree):
                if isinstance(node, ast.FunctionDef):
                    self.assertLessEqual(node.end_lineno - node.lineno + 1, 40, (name, node.name))
                    self.assertEqual(node.decorator_list, [])
                    self.assertIsNone(node.args.vararg or node.args.kwarg)

    def test_only_the_package_is_imported(self):
        for name, tree in trees():
            for node in ast.walk(tree):
                if isinstance(node, ast.ImportFrom):
                    self.assertTrue(node.level == 0 and node.module.startswith("levelloads."), name)

    def test_no_form_that_is_left_out(self):
        for name, tree in trees():
            for node in ast.walk(tree):
                self.assertNotIsInstance(node, OUTSIDE, name)
                if isinstance(node, ast.Constant):
                    self.assertNotIsInstance(node.value, (float, bytes, complex), name)
                if isinstance(node, (ast.For, ast.While)):
                    self.assertEqual(node.orelse, [], name)
                if isinstance(node, ast.Assign):
                    self.assertEqual(len(node.targets), 1, name)
                if isinstance(node, (ast.Name, ast.arg)):
                    self.assertFalse((node.id if isinstance(node, ast.Name) else node.arg).startswith("_"), name)

    def test_no_other_name_of_python_s_own(self):
        for name, tree in trees():
            for node in ast.walk(tree):
                if isinstance(node, ast.Name) and node.id in vars(builtins):
                    self.assertIn(node.id, OWN, name)
                    self.assertIsInstance(node.ctx, ast.Load, name)
                if isinstance(node, (ast.arg, ast.FunctionDef, ast.ClassDef)):
                    called = node.arg if isinstance(node, ast.arg) else node.name
                    self.assertNotIn(called, vars(builtins), name)

    def test_no_local_is_called_like_an_import(self):
        for name, tree in trees():
            imported = {alias.name for node in tree.body if isinstance(node, ast.ImportFrom) for alias in node.names}
            for node in ast.walk(tree):
                if isinstance(node, ast.arg):
                    self.assertNotIn(node.arg, imported, name)
                if isinstance(node, ast.Name) and isinstance(node.ctx, ast.Store):
                    self.assertNotIn(node.id, imported, name)

    def test_what_is_imported_is_used_and_stands_there(self):
        defined = {}
        for name, tree in trees():
            defined["levelloads." + name[:-3]] = {node.name for node in tree.body if hasattr(node, "name")}
        for name, tree in trees():
            used = {node.id for node in ast.walk(tree) if isinstance(node, ast.Name)}
            for node in tree.body:
                if isinstance(node, ast.ImportFrom):
                    for alias in node.names:
                        self.assertIn(alias.name, defined[node.module], name)
                        self.assertIn(alias.name, used, name)


if __name__ == "__main__":
    unittest.main()

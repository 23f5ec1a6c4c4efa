"""The rules of the language that are easily seen in the files of the package."""

import ast
import pathlib
import re
import unittest
import warnings

PACKAGE = pathlib.Path(__file__).resolve().parent.parent / "ticktrees"
FILES = sorted(path for path in PACKAGE.rglob("*") if "__pycache__" not in path.parts)
BARRED = re.compile(r"\b(type|typing|typing_extensions|enum|Enum|IntEnum|StrEnum|Flag|IntFlag|Generic|Protocol|ABC|ABCMeta"
                    r"|namedtuple|NamedTuple|TypedDict|TYPE_CHECKING|abstractmethod)\b|dataclass|overload|contextmanager")
BUILTINS = ("len range enumerate zip min max sum abs sorted reversed int str bool bytes list tuple dict set isinstance"
            " ord repr any all divmod ValueError").split()


def bound_names(tree):
    """All names that a file gives to something."""
    for node in ast.walk(tree):
        if isinstance(node, (ast.FunctionDef, ast.ClassDef)):
            yield node.name
        elif isinstance(node, ast.arg):
            yield node.arg
        elif isinstance(node, ast.Name) and isinstance(node.ctx, ast.Store):
            yield node.id
        elif isinstance(node, ast.Attribute):
            yield node.attr


class Language(unittest.TestCase):
    def trees(self):
        for path in FILES:
            with warnings.catch_warnings():
                warnings.simplefilter("error")
                tree = compile(path.read_text(), str(path), "exec", ast.PyCF_ONLY_AST)
            yield path, tree

    def test_files(self):
        self.assertIn("__init__.py", [path.name for path in FILES])
        for path in FILES:
            self.assertRegex(path.name, r"^[a-z0-9_]+\.py$")
            text = path.read_text()
            self.assertRegex(text, r"\A[ -~\n]*\Z")
            self.assertIsNone(BARRED.search(text), path)
            self.assertLessEqual(len(text.splitlines()), 400)
            self.assertLessEqual(max(map(len, text.splitlines())), 120)

    def test_functions_are_short(self):
        for path, tree in self.trees():
            for node in ast.walk(tree):
                if isinstance(node, ast.FunctionDef):
                    self.assertLessEqual(node.end_lineno - node.lineno + 1, 40, (path, node.name))

    def test_imports(self):
        for path, tree in self.trees():
            for node in ast.walk(tree):
                self.assertNotIsInstance(node, ast.Import)
                if isinstance(node, ast.ImportFrom):
                    self.assertRegex(node.module, r"^ticktrees\.[a-z]+$")
                    self.assertIn(node, tree.body)

    def test_names(self):
        for path, tree in self.trees():
            for name in bound_names(tree):
                self.assertTrue(name == "__init__" or re.match("^[A-Za-z]", name), (path, name))
                self.assertNotIn(name, BUILTINS)

    def test_no_import_or_class_is_given_another_meaning(self):
        for path, tree in self.trees():
            known = [node.name for node in tree.body if isinstance(node, ast.ClassDef)]
            known += [one.name for node in tree.body if isinstance(node, ast.ImportFrom) for one in node.names]
            self.assertEqual(len(known), len(set(known)), path)
            for node in ast.walk(tree):
                if isinstance(node, ast.FunctionDef) or isinstance(node, ast.arg):
                    self.assertNotIn(getattr(node, "name", getattr(node, "arg", None)), known, path)
                if isinstance(node, ast.Name) and isinstance(node.ctx, ast.Store):
                    self.assertNotIn(node.id, known, path)

    def test_no_name_is_a_method_and_an_attribute(self):
        methods, attributes = set(), set()
        for path, tree in self.trees():
            for node in ast.walk(tree):
                if isinstance(node, ast.ClassDef):
                    methods |= {one.name for one in node.body if isinstance(one, ast.FunctionDef)}
                if isinstance(node, ast.Attribute) and isinstance(node.ctx, ast.Store):
                    attributes.add(node.attr)
        self.assertEqual(methods & attributes, set())


if __name__ == "__main__":
    unittest.main()

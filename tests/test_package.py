"""The package's files draw on nothing but the package: so no clock, no chance and no files [1]."""

import ast
import builtins
import unittest
from pathlib import Path

FOLDER = Path(__file__).resolve().parent.parent / "passby"

ALLOWED = set(
    "len range enumerate zip min max sum abs sorted reversed int str bool list tuple dict set frozenset isinstance"
    " ord repr any all divmod ValueError KeyError ZeroDivisionError StopIteration IndexError LookupError".split()
)


def files():
    return sorted(path for path in FOLDER.iterdir() if path.name != "__pycache__")


def trees():
    return [(path.name, ast.parse(path.read_text(encoding="ascii"))) for path in files()]


class Package(unittest.TestCase):
    def test_the_modules_are_there_and_nothing_but_modules(self):
        names = [path.name for path in files()]
        for name in ("__init__.py", "errors.py", "deeds.py", "layers.py", "hall.py", "ways.py", "boxes.py"):
            self.assertIn(name, names)
        self.assertTrue(all(name.endswith(".py") for name in names))

    def test_imports_are_the_packages_own(self):
        for name, tree in trees():
            for node in ast.walk(tree):
                self.assertNotIsInstance(node, ast.Import, name)
                if isinstance(node, ast.ImportFrom):
                    self.assertEqual(node.level, 0, name)
                    self.assertTrue(node.module.startswith("passby."), name)

    def test_builtin_names_are_allowed_ones(self):
        for name, tree in trees():
            for node in ast.walk(tree):
                if isinstance(node, ast.Name) and hasattr(builtins, node.id):
                    self.assertIn(node.id, ALLOWED, name)

    def test_sizes(self):
        for path in files():
            rows = path.read_text(encoding="ascii").split("\n")
            self.assertLessEqual(len(rows), 400, path.name)
            for row in rows:
                self.assertLessEqual(len(row), 120, path.name)
                self.assertNotIn("\t", row, path.name)
        for name, tree in trees():
            for node in ast.walk(tree):
                if isinstance(node, ast.FunctionDef):
                    self.assertLessEqual(node.end_lineno - node.lineno + 1, 40, name)


if __name__ == "__main__":
    unittest.main()

import ast
import builtins
import unittest
from pathlib import Path

PACKAGE = Path(__file__).resolve().parent.parent / "truthtoll"

# Python's own names by which neither a clock, nor chance, nor a file is reached.
HARMLESS = set("""
    len range enumerate zip min max sum abs sorted reversed int str bool list tuple dict set frozenset
    isinstance ord repr any all divmod Exception ValueError TypeError KeyError IndexError LookupError
    ZeroDivisionError ArithmeticError OverflowError RuntimeError NotImplementedError
""".split())


def package_trees():
    return [(path.name, ast.parse(path.read_text(encoding="ascii"))) for path in sorted(PACKAGE.rglob("*.py"))]


class NoClockChanceOrFiles(unittest.TestCase):
    def test_the_package_is_found(self):
        names = [name for name, tree in package_trees()]
        for name in ("__init__.py", "errors.py", "shelf.py"):
            self.assertIn(name, names)

    def test_only_own_modules_are_imported(self):
        for name, tree in package_trees():
            for node in ast.walk(tree):
                with self.subTest(file=name):
                    self.assertNotIsInstance(node, ast.Import)
                    if isinstance(node, ast.ImportFrom):
                        self.assertEqual((node.level, node.module.split(".")[0]), (0, "truthtoll"))

    def test_only_harmless_names_of_python_are_used(self):
        for name, tree in package_trees():
            used = {node.id for node in ast.walk(tree) if isinstance(node, ast.Name)}
            with self.subTest(file=name):
                self.assertEqual(sorted((used & set(dir(builtins))) - HARMLESS), [])

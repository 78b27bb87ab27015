import ast
import builtins
import inspect
import unittest
from pathlib import Path

from truthtoll import errors, pile, roads, shelf

PACKAGE = Path(__file__).resolve().parent.parent / "truthtoll"

# Python's own names by which neither a clock, nor chance, nor a file is reached.
HARMLESS = set("""
    len range enumerate zip min max sum abs sorted reversed int str bool list tuple dict set frozenset
    isinstance ord repr any all divmod Exception ValueError TypeError KeyError IndexError LookupError
    ZeroDivisionError ArithmeticError OverflowError RuntimeError NotImplementedError
""".split())


def package_trees():
    return [(path.name, ast.parse(path.read_text(encoding="ascii"))) for path in sorted(PACKAGE.rglob("*.py"))]


class NoClockChanceOrFiles(unittest.TestCase):
    def test_the_package_is_found(self):
        names = [name for name, tree in package_trees()]
        for name in ("__init__.py", "errors.py", "shelf.py", "pile.py", "roads.py"):
            self.assertIn(name, names)

    def test_only_own_modules_are_imported(self):
        for name, tree in package_trees():
            for node in ast.walk(tree):
                with self.subTest(file=name):
                    self.assertNotIsInstance(node, ast.Import)
                    if isinstance(node, ast.ImportFrom):
                        self.assertEqual((node.level, node.module.split(".")[0]), (0, "truthtoll"))

    def test_only_harmless_names_of_python_are_used(self):
        for name, tree in package_trees():
            used = {node.id for node in ast.walk(tree) if isinstance(node, ast.Name)}
            with self.subTest(file=name):
                self.assertEqual(sorted((used & set(dir(builtins))) - HARMLESS), [])


class TheInterface(unittest.TestCase):
    FUNCTIONS = [
        (shelf, "shelf_best", ["worths"]),
        (shelf, "shelf_pays", ["worths"]),
        (shelf, "shelf_gain", ["worths", "person", "truth"]),
        (pile, "pile_best", ["pieces", "worths"]),
        (pile, "pile_pays", ["pieces", "worths"]),
        (pile, "pile_gain", ["pieces", "worths", "person", "truth"]),
        (roads, "Web", ["places", "roads"]),
        (roads, "road_best", ["web", "kind", "costs"]),
        (roads, "road_gets", ["web", "kind", "costs"]),
        (roads, "road_gain", ["web", "kind", "costs", "road", "truth"]),
    ]

    def test_names_and_arguments(self):
        for module, name, arguments in self.FUNCTIONS:
            with self.subTest(name=name):
                parameters = inspect.signature(getattr(module, name)).parameters
                self.assertEqual(list(parameters), arguments)
                self.assertEqual({one.default for one in parameters.values()}, {inspect.Parameter.empty})

    def test_web_and_the_errors_are_classes(self):
        for kind in (roads.Web, errors.TollError, errors.BadWorths, errors.BadWeb, errors.BadCosts, errors.NoWay,
                     errors.Alone):
            self.assertIsInstance(kind, type)

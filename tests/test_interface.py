"""The interface of the document: what stands where, and the plain limits of how files are written."""

import ast
import importlib
import pathlib
import unittest

PACKAGE = pathlib.Path(__file__).resolve().parent.parent / "ringsums"

NAMES = {
    "errors": {
        "RingError": [], "InvalidForm": ["__init__"], "InvalidLane": ["__init__"], "InvalidBlock": ["__init__"],
        "InvalidPlan": [], "InvalidText": ["__init__"], "InvalidRows": ["__init__"], "InvalidSlip": ["__init__"],
        "InvalidCalendar": ["__init__"], "InvalidFault": [], "InvalidCommand": [], "Refused": ["__init__"],
        "NoBlock": ["__init__"],
    },
    "forms": {"Form": ["__init__", "__call__", "read", "__eq__", "__str__"]},
    "plans": {
        "Lane": ["__init__", "follows", "__eq__", "__str__"],
        "Block": ["__init__", "__eq__", "__str__"],
        "Plan": ["__init__", "all_rounds", "without", "read", "__len__", "__getitem__", "__add__", "__eq__", "__str__"],
    },
    "plays": {"cuts": None, "Slip": ["__init__", "__eq__"], "play": None, "Played": [], "suspects": None},
    "tables": {"held": None, "faults_at": None, "spots": None},
    "calendars": {
        "Calendar": [
            "__init__", "least", "size", "share", "__contains__", "__invert__", "__and__", "__or__", "__sub__",
            "__xor__", "__le__", "__lt__", "__ge__", "__gt__", "__eq__", "__str__",
        ],
    },
    "deciding": {
        "period_of": None, "bound_of": None, "right": None, "happens": None, "is_right": None, "shows": None,
    },
    "comparing": {
        "same_for": None, "alike": None, "parting": None, "needless": None, "repairs": None, "spare": None,
    },
}


def trees():
    """Return the syntax tree of each file of the package by its name."""
    return {path.name: ast.parse(path.read_text()) for path in PACKAGE.glob("*.py")}


class TestInterface(unittest.TestCase):
    def test_defined_in_the_very_file_and_class(self):
        for module, names in NAMES.items():
            found = importlib.import_module(f"ringsums.{module}")
            for name, methods in names.items():
                thing = getattr(found, name)
                self.assertEqual(thing.__module__, f"ringsums.{module}")
                for method in methods or []:
                    self.assertIn(method, vars(thing), f"{name}.{method}")

    def test_init_is_only_a_docstring(self):
        body = trees()["__init__.py"].body
        self.assertEqual(len(body), 1)
        self.assertIsInstance(body[0].value.value, str)

    def test_sizes_and_characters(self):
        for path in PACKAGE.glob("*.py"):
            lines = path.read_text(encoding="utf-8").split("\n")
            self.assertLessEqual(len(lines), 399, path.name)
            for line in lines:
                self.assertLessEqual(len(line), 120, path.name)
                self.assertTrue(all(" " <= sign <= "~" for sign in line), path.name)

    def test_functions_are_small(self):
        for name, tree in trees().items():
            for node in ast.walk(tree):
                if isinstance(node, ast.FunctionDef):
                    self.assertLessEqual(node.end_lineno - node.lineno + 1, 40, f"{name}: {node.name}")

    def test_imports_only_from_the_package_and_the_named_library(self):
        allowed = {"heapq", "math", "itertools", "collections"}
        for name, tree in trees().items():
            for node in ast.walk(tree):
                self.assertNotIsInstance(node, ast.Import, name)
                if isinstance(node, ast.ImportFrom):
                    self.assertTrue(node.module.startswith("ringsums.") or node.module in allowed, name)


if __name__ == "__main__":
    unittest.main()

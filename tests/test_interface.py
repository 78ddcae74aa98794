"""The interface of the document: what stands where, and the plain limits of how files are written."""

import ast
import importlib
import inspect
import pathlib
import unittest

PACKAGE = pathlib.Path(__file__).resolve().parent.parent / "ringsums"

NAMES = {
    "errors": {
        "RingError": [], "InvalidForm": ["__init__"], "InvalidLane": ["__init__"], "InvalidBlock": ["__init__"],
        "InvalidPlan": [], "InvalidText": ["__init__"], "InvalidRows": ["__init__"], "InvalidSlip": ["__init__"],
        "InvalidCalendar": ["__init__"], "InvalidFault": [], "InvalidCommand": [], "Refused": ["__init__"],
        "NoBlock": ["__init__"],
    },
    "forms": {"Form": ["__init__", "__call__", "read", "__eq__", "__str__"]},
    "plans": {
        "Lane": ["__init__", "follows", "__eq__", "__str__"],
        "Block": ["__init__", "__eq__", "__str__"],
        "Plan": ["__init__", "all_rounds", "without", "read", "__len__", "__getitem__", "__add__", "__eq__", "__str__"],
    },
    "plays": {"cuts": None, "Slip": ["__init__", "__eq__"], "play": None, "Played": [], "suspects": None},
    "tables": {"held": None, "faults_at": None, "spots": None},
    "calendars": {
        "Calendar": [
            "__init__", "least", "size", "share", "__contains__", "__invert__", "__and__", "__or__", "__sub__",
            "__xor__", "__le__", "__lt__", "__ge__", "__gt__", "__eq__", "__str__",
        ],
    },
    "deciding": {
        "period_of": None, "bound_of": None, "right": None, "happens": None, "is_right": None, "shows": None,
    },
    "comparing": {
        "same_for": None, "alike": None, "parting": None, "needless": None, "repairs": None, "spare": None,
    },
    "costs": {"pace": None, "sent": None, "hops": None, "lean": None, "ends": None, "rooms": None},
    "fewest": {"fewest": None, "schedule": None, "schedule_holds": None},
    "live": {
        "Ring": ["__init__", "step", "rest", "fall", "change", "hopes", "undo", "trial", "within", "__len__"],
    },
    "desk": {"Desk": ["__init__", "say"]},
}

# The parameters as the document tells them; self and cls are left out.
PARAMETERS = {
    "errors": {
        "InvalidForm": "(word)", "InvalidLane": "(word)", "InvalidBlock": "(word)", "InvalidText": "(at)",
        "InvalidRows": "(at)", "InvalidSlip": "(word)", "InvalidCalendar": "(word)", "Refused": "(at)",
        "NoBlock": "(at)",
    },
    "forms": {"Form": "(times=0, plus=0, by=1)", "Form.__call__": "(n)", "Form.read": "(text)"},
    "plans": {
        "Lane": "(way, sign, shift, deed)", "Block": "(rounds, lanes)", "Plan": "(blocks=())",
        "Plan.all_rounds": "(n)", "Plan.without": "(at)", "Plan.read": "(text)",
    },
    "plays": {
        "cuts": "(length, n)", "Slip": "(kind, turn, machine, lane)", "play": "(plan, rows, slips=())",
        "suspects": "(plan, rows, seen)",
    },
    "tables": {"held": "(plan, n)", "faults_at": "(plan, n)", "spots": "(plan, n, fault)"},
    "calendars": {"Calendar": "(few=(), start=1, period=1, rests=())"},
    "deciding": {
        "period_of": "(plan)", "bound_of": "(plan)", "right": "(plan)", "happens": "(plan, fault)",
        "is_right": "(plan)", "shows": "(plan, fault)",
    },
    "comparing": {
        "same_for": "(p, q)", "alike": "(p, q)", "parting": "(p, q)", "needless": "(plan)", "repairs": "(plan)",
        "spare": "(plan, at)",
    },
    "costs": {
        "pace": "(plan)", "sent": "(plan, n, length)", "hops": "(plan, n)", "lean": "(plan)", "ends": "(plan, late)",
        "rooms": "(plan, late)",
    },
    "fewest": {"fewest": "(n, ways)", "schedule": "(n, ways)", "schedule_holds": "(n, ways, value)"},
    "live": {
        "Ring": "(plan, rows)", "Ring.step": "(slips=())", "Ring.rest": "()", "Ring.fall": "(machine)",
        "Ring.change": "(plan)", "Ring.hopes": "()", "Ring.undo": "()", "Ring.trial": "()", "Ring.within": "(work)",
    },
    "desk": {"Desk": "()", "Desk.say": "(command)"},
}


def parameters_of(module, name):
    """Return the text of the parameters of a function, a class or a method."""
    holder, _, method = name.partition(".")
    thing = getattr(importlib.import_module(f"ringsums.{module}"), holder)
    if method == "":
        return str(inspect.signature(thing))
    # What is bound to an object of its class has its first parameter no more.
    bound = getattr(thing, method)
    told = inspect.signature(bound)
    if not inspect.ismethod(bound):
        told = told.replace(parameters=list(told.parameters.values())[1:])
    return str(told)


def trees():
    """Return the syntax tree of each file of the package by its name."""
    return {path.name: ast.parse(path.read_text()) for path in PACKAGE.glob("*.py")}


class TestInterface(unittest.TestCase):
    def test_defined_in_the_very_file_and_class(self):
        for module, names in NAMES.items():
            found = importlib.import_module(f"ringsums.{module}")
            for name, methods in names.items():
                thing = getattr(found, name)
                self.assertEqual(thing.__module__, f"ringsums.{module}")
                for method in methods or []:
                    self.assertIn(method, vars(thing), f"{name}.{method}")

    def test_all_modules_of_the_interface(self):
        self.assertEqual(set(PARAMETERS), set(NAMES))
        self.assertLessEqual({f"{module}.py" for module in NAMES}, set(trees()))

    def test_parameters(self):
        for module, names in PARAMETERS.items():
            for name, told in names.items():
                with self.subTest(f"{module}.{name}"):
                    self.assertEqual(parameters_of(module, name), told)

    def test_init_is_only_a_docstring(self):
        body = trees()["__init__.py"].body
        self.assertEqual(len(body), 1)
        self.assertIsInstance(body[0].value.value, str)

    def test_sizes_and_characters(self):
        for path in PACKAGE.glob("*.py"):
            lines = path.read_text(encoding="utf-8").split("\n")
            self.assertLessEqual(len(lines), 399, path.name)
            for line in lines:
                self.assertLessEqual(len(line), 120, path.name)
                self.assertTrue(all(" " <= sign <= "~" for sign in line), path.name)

    def test_functions_are_small(self):
        for name, tree in trees().items():
            for node in ast.walk(tree):
                if isinstance(node, ast.FunctionDef):
                    self.assertLessEqual(node.end_lineno - node.lineno + 1, 40, f"{name}: {node.name}")

    def test_imports_only_from_the_package_and_the_named_library(self):
        allowed = {"heapq", "math", "itertools", "collections"}
        for name, tree in trees().items():
            for node in ast.walk(tree):
                self.assertNotIsInstance(node, ast.Import, name)
                if isinstance(node, ast.ImportFrom):
                    self.assertTrue(node.module.startswith("ringsums.") or node.module in allowed, name)


if __name__ == "__main__":
    unittest.main()

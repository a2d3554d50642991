"""Each function and class stands in the file under which the interface lists it, with its arguments."""

import ast
import inspect
import unittest
from importlib import import_module
from pathlib import Path

# In the order in which the interface lists them.
MODULES = (
    "limits", "errors", "rings", "cells", "likeness", "falls", "plans", "fates", "copies", "mends", "desks", "shelves",
    "checker", "certificates", "console",
)
HELPERS = ("basics", "trials")

FUNCTIONS = {
    "cells": {
        "cells": ("ring",), "common_cells": ("one", "other"), "kept": ("ring", "name"), "leads": ("ring", "name"),
        "shares": ("ring",), "greatest": ("ring",), "best_mark": ("ring", "name"),
    },
    "likeness": {name: ("one", "other") for name in ("unlike_arcs", "alien_arcs", "alike", "kin", "moves", "moved")},
    "falls": {"bears": ("ring", "kind", "down", "left"), "breach": ("ring", "kind", "down", "left")},
    "fates": {
        "wanted": ("plan", "point", "moment"), "holders": ("plan", "point", "moment", "names", "until"),
        "lost": ("plan",), "lost_at": ("plan", "point"), "is_safe": ("plan",), "halted": ("plan",), "is_able": ("plan",),
    },
    "copies": {"copies": ("ring", "step"), "change": ("ring", "step")},
    "mends": {"holds": ("plan", "wish"), "stands": ("ring", "wish"), "mends": ("plan", "wishes", "further")},
    "checker": {"accepts": ("claim", "certificate")},
    "certificates": {
        "certify": ("plan", "wish"), "certify_rings": ("one", "other"), "certify_share": ("ring", "name"),
    },
}

CLASSES = {
    "rings": ("Ring", {
        "__init__": ("points", "factor", "spread", "write", "read", "pending", "hosts"), "read": ("text",),
        "walk": ("point",), "keepers": ("point",), "joined": ("name", "rack", "marks"), "left": ("name",),
        "ruled": ("write", "read", "pending"), "__len__": (), "__getitem__": ("at",), "__contains__": ("x",), "__str__": (),
        "__eq__": ("other",),
    }, ("points", "factor", "spread", "write", "read_number", "pending", "hosts", "names")),
    "plans": ("Plan", {
        "__init__": ("ring", "steps"), "read": ("text",), "counting": ("moment",), "coming": ("moment",),
        "fallen": ("moment",), "keepers": ("point", "moment"), "pendings": ("point", "moment"), "then": ("step",),
        "__len__": (), "__str__": (), "__eq__": ("other",),
    }, ("ring", "steps")),
    "desks": ("Desk", {
        "__init__": ("ring",), "do": ("step",), "promise": ("wish",), "lift": ("index",), "undo": (), "trial": (),
        "tried": ("action",), "__len__": (),
    }, ("plan", "ring", "promises", "changes")),
    "shelves": ("Shelf", {
        "__init__": (), "__setitem__": ("at", "worth"), "__getitem__": ("at",), "remove": ("name",), "wish": ("wish",),
        "lift": ("index",), "undo": (), "trial": (), "tried": ("action",), "__contains__": ("x",), "__len__": (),
    }, ("names", "wishes", "changes")),
    "console": ("Console", {"__init__": ("ring",), "say": ("line",)}, ("desk",)),
}


def parameters(call):
    return tuple(name for name in inspect.signature(call).parameters if name not in ("self", "cls"))


def defined_in(module):
    """Returns the names of the functions and classes that the file of a module itself defines."""
    tree = ast.parse(inspect.getsource(module))
    return [node.name for node in tree.body if isinstance(node, (ast.FunctionDef, ast.ClassDef))]


class Interface(unittest.TestCase):
    def test_functions(self):
        for file, functions in FUNCTIONS.items():
            module = import_module("ringshares." + file)
            for name, told in functions.items():
                self.assertIn(name, defined_in(module))
                self.assertEqual(parameters(getattr(module, name)), told)

    def test_classes_and_their_methods(self):
        for file, (name, methods, properties) in CLASSES.items():
            module = import_module("ringshares." + file)
            self.assertIn(name, defined_in(module))
            listed = vars(getattr(module, name))
            for method, told in methods.items():
                self.assertIn(method, listed)
                self.assertEqual(parameters(getattr(getattr(module, name), method)), told)
            for word in properties:
                self.assertIsInstance(listed[word], property)
            if "read" in methods:
                self.assertIsInstance(listed["read"], classmethod)

    def needed(self, file):
        """Returns the modules that a module needs, and those that these need."""
        found = []
        for node in ast.walk(ast.parse(inspect.getsource(import_module("ringshares." + file)))):
            if isinstance(node, ast.ImportFrom):
                name = node.module.split(".")[1]
                found += [name] + self.needed(name)
        return found

    def test_modules_need_only_those_listed_ahead(self):
        for at, file in enumerate(MODULES):
            for name in self.needed(file):
                self.assertIn(name, MODULES[:at] + HELPERS, file)

    def test_all_files_are_listed_here(self):
        package = import_module("ringshares")
        files = sorted(path.stem for path in Path(package.__file__).parent.glob("*.py"))
        self.assertEqual(files, sorted(MODULES + HELPERS + ("__init__",)))
        self.assertEqual([name for name in vars(package) if not name.startswith("__") and name not in MODULES + HELPERS], [])


if __name__ == "__main__":
    unittest.main()

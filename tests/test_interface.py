"""Each function and class stands in the file under which the interface lists it, with its arguments."""

import ast
import inspect
import unittest
from importlib import import_module

FUNCTIONS = {
    "cells": {
        "cells": ("ring",), "common_cells": ("one", "other"), "kept": ("ring", "name"), "leads": ("ring", "name"),
        "shares": ("ring",), "greatest": ("ring",), "best_mark": ("ring", "name"),
    },
    "likeness": {name: ("one", "other") for name in ("unlike_arcs", "alien_arcs", "alike", "kin", "moves", "moved")},
    "falls": {"bears": ("ring", "kind", "down", "left"), "breach": ("ring", "kind", "down", "left")},
    "fates": {
        "wanted": ("plan", "point", "moment"), "holders": ("plan", "point", "moment", "names", "until"),
        "lost": ("plan",), "lost_at": ("plan", "point"), "is_safe": ("plan",), "halted": ("plan",), "is_able": ("plan",),
    },
    "copies": {"copies": ("ring", "step"), "change": ("ring", "step")},
    "mends": {"holds": ("plan", "wish"), "stands": ("ring", "wish"), "mends": ("plan", "wishes", "further")},
}

CLASSES = {
    "rings": ("Ring", {
        "__init__": ("points", "factor", "spread", "write", "read", "pending", "hosts"), "read": ("text",),
        "walk": ("point",), "keepers": ("point",), "joined": ("name", "rack", "marks"), "left": ("name",),
        "ruled": ("write", "read", "pending"),
    }, ("points", "factor", "spread", "write", "read_number", "pending", "hosts", "names")),
    "plans": ("Plan", {
        "__init__": ("ring", "steps"), "read": ("text",), "counting": ("moment",), "coming": ("moment",),
        "fallen": ("moment",), "keepers": ("point", "moment"), "pendings": ("point", "moment"), "then": ("step",),
    }, ("ring", "steps")),
    "desks": ("Desk", {
        "__init__": ("ring",), "do": ("step",), "promise": ("wish",), "lift": ("index",), "undo": (), "trial": (),
        "tried": ("action",), "__len__": (),
    }, ("plan", "ring", "promises", "changes")),
}


def parameters(call):
    return tuple(name for name in inspect.signature(call).parameters if name not in ("self", "cls"))


def defined_in(module):
    """Returns the names of the functions and classes that the file of a module itself defines."""
    tree = ast.parse(inspect.getsource(module))
    return [node.name for node in tree.body if isinstance(node, (ast.FunctionDef, ast.ClassDef))]


class Interface(unittest.TestCase):
    def test_functions(self):
        for file, functions in FUNCTIONS.items():
            module = import_module("ringshares." + file)
            for name, told in functions.items():
                self.assertIn(name, defined_in(module))
                self.assertEqual(parameters(getattr(module, name)), told)

    def test_classes_and_their_methods(self):
        for file, (name, methods, properties) in CLASSES.items():
            module = import_module("ringshares." + file)
            self.assertIn(name, defined_in(module))
            listed = vars(getattr(module, name))
            for method, told in methods.items():
                self.assertIn(method, listed)
                self.assertEqual(parameters(getattr(getattr(module, name), method)), told)
            for word in properties:
                self.assertIsInstance(listed[word], property)
            if "read" in methods:
                self.assertIsInstance(listed["read"], classmethod)

    def test_modules_need_only_those_listed_ahead(self):
        ahead = [
            "limits", "errors", "rings", "cells", "likeness", "falls", "plans", "fates", "copies", "mends", "desks",
        ]
        for at, file in enumerate(ahead):
            module = import_module("ringshares." + file)
            for node in ast.walk(ast.parse(inspect.getsource(module))):
                if isinstance(node, ast.ImportFrom) and node.module.split(".")[1] in ahead:
                    self.assertIn(node.module.split(".")[1], ahead[:at], file)


if __name__ == "__main__":
    unittest.main()

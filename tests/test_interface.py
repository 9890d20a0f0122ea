"""Tests of the part "The interface": names, parameter names, and where things are defined."""

import ast
import importlib
import inspect
import pathlib
import unittest

PACKAGE = pathlib.Path(__file__).resolve().parent.parent / "undoamid"

REQUIRED = inspect.Parameter.empty
STAR = "star"

CLASSES = {
    ("tables", "Table"): {
        "__init__": {"kinds": REQUIRED, "pairs": ()},
        "free": {"one": REQUIRED, "other": REQUIRED},
        "barred": {"one": REQUIRED, "other": REQUIRED},
        "with_pair": {"one": REQUIRED, "other": REQUIRED},
        "without_pair": {"one": REQUIRED, "other": REQUIRED},
        "within": {"other": REQUIRED},
        "groups": {"kinds": REQUIRED},
        "of_cells": {"cells": REQUIRED},
        "read": {"text": REQUIRED},
    },
    ("rows", "Row"): {
        "__init__": {"table": REQUIRED, "syllables": ()},
        "under": {"table": REQUIRED},
        "without": {"at": REQUIRED, "more": STAR},
        "moved": {"at": REQUIRED, "to": REQUIRED},
        "read": {"table": REQUIRED, "text": REQUIRED},
    },
}

OPERATORS = {
    ("tables", "Table"): ["__len__", "__contains__", "__eq__", "__str__", "__repr__"],
    ("rows", "Row"): [
        "__len__", "__getitem__", "__add__", "__invert__", "__eq__", "__bool__", "__str__",
    ],
}

CLASS_METHODS = {("tables", "Table"): ["of_cells", "read"], ("rows", "Row"): ["read"]}
PROPERTIES = {("rows", "Row"): ["turns"]}


def class_of(place):
    return getattr(importlib.import_module("undoamid." + place[0]), place[1])


def parameters_of(function):
    """The parameters behind the first one, each with its default value."""
    found = {}
    for name, parameter in list(inspect.signature(function).parameters.items())[1:]:
        is_star = parameter.kind is inspect.Parameter.VAR_POSITIONAL
        found[name] = STAR if is_star else parameter.default
    return found


class TestInterface(unittest.TestCase):
    def test_classes_are_defined_where_they_are_listed(self):
        for place in CLASSES:
            self.assertEqual(class_of(place).__module__, "undoamid." + place[0])

    def test_methods_stand_in_the_class_itself_with_their_parameters(self):
        for place, methods in CLASSES.items():
            for name, parameters in methods.items():
                with self.subTest(place, name=name):
                    method = vars(class_of(place))[name]
                    function = getattr(method, "__func__", method)
                    self.assertEqual(parameters_of(function), parameters)
                    self.assertEqual(list(parameters_of(function)), list(parameters))

    def test_operators_stand_in_the_class_itself(self):
        for place, names in OPERATORS.items():
            for name in names:
                with self.subTest(place, name=name):
                    self.assertIn(name, vars(class_of(place)))

    def test_class_methods_and_properties(self):
        for place, names in CLASS_METHODS.items():
            for name in names:
                self.assertIsInstance(vars(class_of(place))[name], classmethod)
        for place, names in PROPERTIES.items():
            for name in names:
                self.assertIsInstance(vars(class_of(place))[name], property)

    def test_the_package_file_is_empty_but_for_a_docstring(self):
        tree = ast.parse((PACKAGE / "__init__.py").read_text(encoding="utf-8"))
        self.assertEqual(len(tree.body), 1)
        self.assertIsNotNone(ast.get_docstring(tree))


if __name__ == "__main__":
    unittest.main()

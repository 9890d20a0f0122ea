"""Tests of the part "The interface": names, parameter names, and where things are defined."""

import ast
import importlib
import inspect
import pathlib
import unittest

PACKAGE = pathlib.Path(__file__).resolve().parent.parent / "undoamid"

REQUIRED = inspect.Parameter.empty
STAR = "star"

CLASSES = {
    ("tables", "Table"): {
        "__init__": {"kinds": REQUIRED, "pairs": ()},
        "free": {"one": REQUIRED, "other": REQUIRED},
        "barred": {"one": REQUIRED, "other": REQUIRED},
        "with_pair": {"one": REQUIRED, "other": REQUIRED},
        "without_pair": {"one": REQUIRED, "other": REQUIRED},
        "within": {"other": REQUIRED},
        "groups": {"kinds": REQUIRED},
        "of_cells": {"cells": REQUIRED},
        "read": {"text": REQUIRED},
    },
    ("rows", "Row"): {
        "__init__": {"table": REQUIRED, "syllables": ()},
        "under": {"table": REQUIRED},
        "without": {"at": REQUIRED, "more": STAR},
        "moved": {"at": REQUIRED, "to": REQUIRED},
        "read": {"table": REQUIRED, "text": REQUIRED},
    },
    ("versions", "Version"): {
        "__init__": {"table": REQUIRED, "syllables": ()},
        "of": {"row": REQUIRED},
        "hangs": {"at": REQUIRED, "on": REQUIRED},
        "only": {"kinds": STAR},
        "without": {"kinds": STAR},
        "under": {"table": REQUIRED},
        "begins": {"other": REQUIRED},
        "power": {"exponent": REQUIRED},
    },
    ("stores", "Store"): {
        "__init__": {"size": REQUIRED, "moves": REQUIRED},
        "__call__": {"row": REQUIRED, "standing": REQUIRED},
        "clash": {"table": REQUIRED},
        "keeps": {"table": REQUIRED},
    },
    ("houses", "House"): {
        "__init__": {"table": REQUIRED},
        "do": {"kind": REQUIRED, "count": 1},
        "take_out": {"at": REQUIRED},
        "move": {"at": REQUIRED, "to": REQUIRED},
        "shorten": {},
        "branch": {"name": REQUIRED},
        "go": {"name": REQUIRED},
        "drop": {"name": REQUIRED},
        "merge": {"name": REQUIRED},
        "together": {"name": REQUIRED},
        "lay": {"name": REQUIRED},
        "change": {"table": REQUIRED},
        "undo": {},
        "attach": {"name": REQUIRED, "store": REQUIRED, "standing": REQUIRED},
        "standing": {"name": REQUIRED},
        "log": {},
        "trial": {},
        "tried": {"steps": REQUIRED},
        "within": {"work": REQUIRED},
    },
    ("desk", "Desk"): {"__init__": {}, "say": {"command": REQUIRED}},
}

# What stands behind MOST is passed by name only.
MOST = {"most": 2000}
FUNCTIONS = {
    ("between", "distance"): ({"one": REQUIRED, "other": REQUIRED}, {}),
    ("between", "is_between"): ({"version": REQUIRED, "one": REQUIRED, "other": REQUIRED}, {}),
    ("between", "middle"): ({"one": REQUIRED, "other": REQUIRED, "third": REQUIRED}, {}),
    ("between", "nearest"): ({"version": REQUIRED, "base": REQUIRED, "kinds": REQUIRED}, {}),
    ("between", "count_between"): ({"one": REQUIRED, "other": REQUIRED}, MOST),
    ("between", "between"): ({"one": REQUIRED, "other": REQUIRED}, {}),
    ("orders", "orders"): ({"version": REQUIRED}, {}),
    ("orders", "count_orders"): ({"version": REQUIRED}, MOST),
    ("orders", "order_at"): ({"version": REQUIRED, "at": REQUIRED}, MOST),
    ("orders", "order_of"): ({"row": REQUIRED}, MOST),
    ("amends", "amends_between"): ({"one": REQUIRED, "other": REQUIRED}, {}),
    ("amends", "hanging"): ({"row": REQUIRED, "at": REQUIRED}, {}),
    ("amends", "amends"): ({"row": REQUIRED, "at": REQUIRED, "more": STAR}, {}),
    ("amends", "chain"): ({"row": REQUIRED, "at": REQUIRED, "index": REQUIRED}, {}),
    ("amends", "moving"): ({"row": REQUIRED, "at": REQUIRED, "to": REQUIRED}, {}),
    ("parting", "core"): ({"one": REQUIRED, "other": REQUIRED}, {}),
    ("parting", "count_standings"): ({"version": REQUIRED}, MOST),
    ("parting", "parted"): ({"one": REQUIRED, "other": REQUIRED}, MOST),
    ("parting", "parts"): ({"version": REQUIRED}, {}),
    ("parting", "count_parts"): ({"version": REQUIRED}, MOST),
    ("rounds", "is_round"): ({"version": REQUIRED}, {}),
    ("rounds", "round_form"): ({"version": REQUIRED}, {}),
    ("rounds", "root"): ({"version": REQUIRED}, {}),
    ("rounds", "exponent"): ({"base": REQUIRED, "version": REQUIRED}, {}),
    ("rounds", "lead_between"): ({"one": REQUIRED, "other": REQUIRED}, {}),
    ("rounds", "exchangeable"): ({"one": REQUIRED, "other": REQUIRED}, {}),
    ("rounds", "exchanging"): ({"version": REQUIRED}, {}),
    ("merging", "laid"): ({"base": REQUIRED, "branch": REQUIRED, "onto": REQUIRED}, {}),
    ("merging", "joined"): ({"base": REQUIRED, "one": REQUIRED, "more": STAR}, {}),
    ("merging", "together"): ({"base": REQUIRED, "one": REQUIRED, "other": REQUIRED}, {}),
    ("papers", "paper"): ({"one": REQUIRED, "other": REQUIRED}, {}),
    ("papers", "paper_holds"): ({"one": REQUIRED, "other": REQUIRED, "value": REQUIRED}, {}),
    ("papers", "walked"): ({"row": REQUIRED, "value": REQUIRED}, {}),
    ("papers", "parting_holds"): (
        {"one": REQUIRED, "other": REQUIRED, "store": REQUIRED, "standing": REQUIRED}, {}),
    ("papers", "lead_holds"): ({"one": REQUIRED, "other": REQUIRED, "lead": REQUIRED}, {}),
    ("papers", "root_holds"): ({"version": REQUIRED, "root": REQUIRED, "power": REQUIRED}, {}),
    ("papers", "exchange_holds"): (
        {"version": REQUIRED, "lead": REQUIRED, "roots": REQUIRED, "kinds": REQUIRED}, {}),
    ("counting", "count_versions"): ({"table": REQUIRED, "turns": REQUIRED}, {}),
    ("counting", "count_within"): ({"table": REQUIRED, "turns": REQUIRED}, {}),
    ("counting", "free_sets"): ({"table": REQUIRED}, {}),
}

OPERATORS = {
    ("tables", "Table"): ["__len__", "__contains__", "__eq__", "__str__", "__repr__"],
    ("rows", "Row"): [
        "__len__", "__getitem__", "__add__", "__invert__", "__eq__", "__bool__", "__str__",
    ],
    ("versions", "Version"): [
        "__len__", "__bool__", "__mul__", "__invert__", "__eq__", "__and__", "__or__", "__str__",
    ],
    ("stores", "Store"): ["__call__", "__eq__"],
    ("houses", "House"): ["__getitem__", "__contains__", "__len__", "__eq__"],
    ("desk", "Desk"): ["__len__"],
}

CLASS_METHODS = {
    ("tables", "Table"): ["of_cells", "read"], ("rows", "Row"): ["read"], ("versions", "Version"): ["of"],
}
PROPERTIES = {("rows", "Row"): ["turns"], ("versions", "Version"): ["turns"], ("stores", "Store"): ["moves"]}
ATTRIBUTES = {
    ("tables", "Table"): ["kinds", "pairs"],
    ("rows", "Row"): ["table", "syllables"],
    ("versions", "Version"): ["table", "syllables", "layers", "kinds", "row", "last"],
    ("stores", "Store"): ["size"],
    ("houses", "House"): ["table", "current", "names", "row", "version", "stores"],
}


def named(place):
    return getattr(importlib.import_module("undoamid." + place[0]), place[1])


def parameters_of(function):
    """The parameters behind the first one, each with its default value."""
    found = {}
    for name, parameter in list(inspect.signature(function).parameters.items())[1:]:
        is_star = parameter.kind is inspect.Parameter.VAR_POSITIONAL
        found[name] = STAR if is_star else parameter.default
    return found


class TestInterface(unittest.TestCase):
    def test_classes_are_defined_where_they_are_listed(self):
        for place in CLASSES:
            self.assertEqual(named(place).__module__, "undoamid." + place[0])

    def test_methods_stand_in_the_class_itself_with_their_parameters(self):
        for place, methods in CLASSES.items():
            for name, parameters in methods.items():
                with self.subTest(place, name=name):
                    method = vars(named(place))[name]
                    function = getattr(method, "__func__", method)
                    self.assertEqual(parameters_of(function), parameters)
                    self.assertEqual(list(parameters_of(function)), list(parameters))

    def test_functions_with_their_parameters(self):
        for place, (by_place, by_name) in FUNCTIONS.items():
            with self.subTest(place):
                function = named(place)
                self.assertEqual(function.__module__, "undoamid." + place[0])
                found = inspect.signature(function).parameters
                told = {name: STAR if one.kind is one.VAR_POSITIONAL else one.default for name, one in found.items()}
                self.assertEqual(list(told.items()), [*by_place.items(), *by_name.items()])
                only = [name for name, one in found.items() if one.kind is one.KEYWORD_ONLY]
                self.assertEqual(only, list(by_name))

    def test_operators_stand_in_the_class_itself(self):
        for place, names in OPERATORS.items():
            for name in names:
                with self.subTest(place, name=name):
                    self.assertIn(name, vars(named(place)))

    def test_class_methods_and_properties(self):
        for place, names in CLASS_METHODS.items():
            for name in names:
                self.assertIsInstance(vars(named(place))[name], classmethod)
        for place, names in PROPERTIES.items():
            for name in names:
                self.assertIsInstance(vars(named(place))[name], property)

    def test_attributes_are_set_when_an_object_is_created(self):
        table = named(("tables", "Table"))(["a"])
        arguments = {"Table": (["a"],), "Row": (table,), "Version": (table,), "Store": (1, {}), "House": (table,)}
        for place, names in ATTRIBUTES.items():
            made = named(place)(*arguments[place[1]])
            self.assertLessEqual(set(names), set(vars(made)))

    def test_the_package_file_is_empty_but_for_a_docstring(self):
        tree = ast.parse((PACKAGE / "__init__.py").read_text(encoding="utf-8"))
        self.assertEqual(len(tree.body), 1)
        self.assertIsNotNone(ast.get_docstring(tree))


if __name__ == "__main__":
    unittest.main()

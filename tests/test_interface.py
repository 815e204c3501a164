"""The interface: each name in its file with its arguments, each error with its fields."""

import ast
import inspect
import unittest
from importlib import import_module
from pathlib import Path

from weavelines import errors

PACKAGE = Path(__file__).resolve().parent.parent / "weavelines"

FUNCTIONS = {
    "weavings": {
        "run_weaving": ["machine", "hands", "weaving"],
        "standing": ["machine", "hands", "moments"],
        "outcomes": ["machine", "hands"],
        "sure_terms": ["machine", "hands", "hand"],
    },
    "terms": {"term_text": ["machine", "term"]},
    "judges": {
        "keeps": ["machine", "hands", "wishes"],
        "harm": ["machine", "hands", "wishes"],
        "shows_harm": ["machine", "hands", "wishes", "value"],
    },
    "needs": {
        "needed": ["machine", "hands", "wishes"],
        "needed_rows": ["machine", "hands", "wishes"],
        "dealing_told": ["machine", "hands", "wishes"],
    },
    "dealings": {
        "obeys": ["machine", "hands", "wishes", "dealing"],
        "own_cells": ["machine", "dealing", "hand"],
    },
    "searches": {
        "can_do": ["machine", "wishes", "dealing"],
        "dealings": ["machine", "wishes"],
        "can_be_woven": ["machine", "wishes"],
        "woven_rows": ["machine", "wishes"],
        "fewest_lines": ["machine", "wishes"],
        "least_cells": ["machine", "wishes"],
    },
    "counts": {
        "count_weavings": ["lengths"],
        "right_weavings": ["machine", "hands", "wishes"],
        "right_share": ["machine", "hands", "wishes"],
    },
    "losses": {
        "is_sturdy": ["machine", "hands", "many", "wishes"],
        "can_be_sturdy": ["machine", "wishes"],
        "sturdy_rows": ["machine", "many", "wishes"],
    },
    "handtexts": {
        "read_term": ["machine", "text"],
        "write_hands": ["machine", "hands"],
        "read_hands": ["text"],
    },
}

# For each class its file, the arguments it is set up with, its methods with theirs, and its properties.
CLASSES = {
    "Weaver": ("benches", ["machine", "hands"], {"do": ["hand"], "undo": []}, ["holds", "moments", "weaving"]),
    "Desk": ("desks", [], {"take_hands": ["text"], "say": ["line"]}, []),
}

FIELDS = {
    "BadMachine": ["part"], "BadHands": ["hand", "index"], "BadWishes": ["hand", "index"],
    "BadLine": ["line", "place"], "TooMany": ["most"],
    "BadTerm": [], "BadWeaving": [], "BadMoments": [], "BadDealing": [], "BadNumber": [], "NoDealing": [],
    "BadStep": [], "BadString": [],
}


def defined(name, kind):
    tree = ast.parse((PACKAGE / (name + ".py")).read_text())
    return [node.name for node in tree.body if isinstance(node, kind)]


class Interface(unittest.TestCase):
    def test_functions(self):
        for name, functions in FUNCTIONS.items():
            module = import_module("weavelines." + name)
            for function, arguments in functions.items():
                with self.subTest(function=function):
                    self.assertIn(function, defined(name, ast.FunctionDef))
                    told = inspect.signature(getattr(module, function)).parameters.values()
                    self.assertEqual([one.name for one in told], arguments)
                    self.assertTrue(all(one.default is one.empty for one in told))

    def test_classes(self):
        for name, (file, arguments, methods, properties) in CLASSES.items():
            with self.subTest(name=name):
                self.assertIn(name, defined(file, ast.ClassDef))
                kind = getattr(import_module("weavelines." + file), name)
                self.assertEqual(kind.__bases__, (object,))
                self.arguments(kind.__init__, arguments)
                for method, told in methods.items():
                    self.assertTrue(inspect.isfunction(vars(kind)[method]))
                    self.arguments(vars(kind)[method], told)
                for told in properties:
                    self.assertIsInstance(vars(kind)[told], property)

    def arguments(self, method, names):
        told = list(inspect.signature(method).parameters.values())
        self.assertEqual([one.name for one in told[1:]], names)
        self.assertTrue(all(one.default is one.empty for one in told))

    def test_errors(self):
        names = defined("errors", ast.ClassDef)
        self.assertEqual(sorted(names), sorted(["WeaveError", *FIELDS]))
        self.assertTrue(issubclass(errors.WeaveError, ValueError))
        for name, fields in FIELDS.items():
            with self.subTest(name=name):
                kind = getattr(errors, name)
                self.assertTrue(issubclass(kind, errors.WeaveError))
                told = [f"the {field}" for field in fields]
                error = kind(*told)
                self.assertEqual([getattr(error, field) for field in fields], told)
                self.assertIsInstance(str(error), str)
                if fields:
                    self.assertEqual(list(inspect.signature(kind.__init__).parameters), ["self", *fields])
                    self.assertEqual(vars(kind(**dict(zip(fields, told)))), dict(zip(fields, told)))


if __name__ == "__main__":
    unittest.main()
